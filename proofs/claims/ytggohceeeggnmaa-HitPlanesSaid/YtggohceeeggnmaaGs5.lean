/-
  A ray of whole numbers and a plane, in plain numbers.
-/
import Derived.Test.YtggohceeeggnmaaHitMath
import Derived.Test.YtggohceeeggnmaaGb

namespace Go.Proofs.Ytggohceeeggnmaa
set_option linter.unusedVariables false

theorem wholeForm15 {n : Int} (h : -16384 ≤ n ∧ n ≤ 16384) : ivWhole n = ⟨n * 65536, n * 65536, false⟩ := by
  unfold ivWhole
  rw [if_pos (isIn_iff.2 (by omega))]
  unfold ivPoint
  exact of_yes (by omega)
theorem wholeRight15 {n : Int} (h : -16384 ≤ n ∧ n ≤ 16384) : ivRight (ivWhole n) = true := by
  rw [wholeForm15 h]
  exact right_of.2 (by omega)
theorem mulWhole15 {m n : Int} (hm : -16384 ≤ m ∧ m ≤ 16384) (hn : -16384 ≤ n ∧ n ≤ 16384) (hp : -16384 ≤ m * n ∧ m * n ≤ 16384) : ivMul (ivWhole m) (ivWhole n) = ivWhole (m * n) := by
  have hr := both_iff.2 ⟨wholeRight15 hm, wholeRight15 hn⟩
  unfold ivMul
  rw [if_pos hr, wholeForm15 hm, wholeForm15 hn, wholeForm15 hp]
  have e : m * 65536 * (n * 65536) = m * n * 65536 * 65536 := by
    rw [Int.mul_assoc m, Int.mul_left_comm 65536 n, ← Int.mul_assoc m n, Int.mul_assoc (m * n)]
  simp only [min4, max4, Int.min_self, Int.max_self, e]
  unfold ivOut
  have e1 : (m * n * 65536 * 65536).fdiv 65536 = m * n * 65536 := by rw [Int.fdiv_eq_ediv_of_nonneg _ (by omega)]; omega
  have e2 : -((-(m * n * 65536 * 65536)).fdiv 65536) = m * n * 65536 := by rw [Int.fdiv_eq_ediv_of_nonneg _ (by omega)]; omega
  rw [e1, e2]
  exact of_yes (by omega)
theorem addWhole15 {m n : Int} (hm : -16384 ≤ m ∧ m ≤ 16384) (hn : -16384 ≤ n ∧ n ≤ 16384) (hp : -16384 ≤ m + n ∧ m + n ≤ 16384) : ivAdd (ivWhole m) (ivWhole n) = ivWhole (m + n) := by
  unfold ivAdd
  rw [if_pos (both_iff.2 ⟨wholeRight15 hm, wholeRight15 hn⟩), wholeForm15 hm, wholeForm15 hn, wholeForm15 hp, Int.add_mul]
  exact of_yes (by simp only; omega)
theorem subWhole15 {m n : Int} (hm : -16384 ≤ m ∧ m ≤ 16384) (hn : -16384 ≤ n ∧ n ≤ 16384) (hp : -16384 ≤ m - n ∧ m - n ≤ 16384) : ivSub (ivWhole m) (ivWhole n) = ivWhole (m - n) := by
  rw [sub_eq, if_pos (both_iff.2 ⟨wholeRight15 hm, wholeRight15 hn⟩), wholeForm15 hm, wholeForm15 hn, wholeForm15 hp, Int.sub_mul]
  exact of_yes (by simp only; omega)
theorem timesWhole15 {m k : Int} (hm : -16384 ≤ m ∧ m ≤ 16384) (hk : -16384 ≤ k ∧ k ≤ 16384) (hp : -16384 ≤ k * m ∧ k * m ≤ 16384) : ivTimes (ivWhole m) k = ivWhole (k * m) := by
  unfold ivTimes
  rw [wholeRight15 hm, isIn_iff.2 (by omega)]
  rw [if_pos (show (true && true) = true from rfl), wholeForm15 hm, wholeForm15 hp]
  simp only [Int.min_self, Int.max_self, ← Int.mul_assoc]
  exact of_yes (by omega)
def planeS (z : Iv) : Sf := ⟨false, false, ⟨0, 0, false⟩, ⟨65536, 65536, false⟩, ⟨0, 0, false⟩, ⟨0, 0, false⟩, z, ⟨6553600, 6553600, false⟩, ⟨65536, 65536, false⟩⟩
def planeT (z w : Int) : Iv := ivDiv (ivWhole (2 * z)) (ivWhole (2 * w))
def wayB (m : Iv) (u z w : Int) : Bool := ivRight m && ((decide (m.lo * w ≤ u * z * 65536) && decide (u * z * 65536 ≤ m.hi * w)) && (decide (-100000000 ≤ m.lo) && decide (m.hi ≤ 100000000)))
def wayOk (u z w : Int) : Bool := wayB (ivMul (ivWhole u) (planeT z w)) u z w
theorem ways_all : ∀ u : Fin 14, ∀ z : Fin 50, ∀ w : Fin 9, wayOk (u.val - 4) (1 + z.val) (1 + w.val) = true := by decide +kernel
theorem planes_all : ∀ z : Fin 50, ∀ w : Fin 9, wayB (planeT (1 + z.val) (1 + w.val)) 1 (1 + z.val) (1 + w.val) = true := by decide +kernel
theorem sqrs_all : ∀ n : Fin 101, ivSqr (ivWhole (n.val - 50)) = ivWhole ((n.val - 50) * (n.val - 50)) := by decide +kernel
theorem roots_all : ∀ n : Fin 9, ivRoot (ivWhole ((1 + n.val) * (1 + n.val))) = ivWhole (1 + n.val) := by decide +kernel
theorem way_of {m : Iv} {u z w : Int} (h : wayB m u z w = true) : ivRight m = true ∧ (m.lo * w ≤ u * z * 65536 ∧ u * z * 65536 ≤ m.hi * w) ∧ -100000000 ≤ m.lo ∧ m.hi ≤ 100000000 := by
  unfold wayB at h
  simp only [Bool.and_eq_true, decide_eq_true_eq] at h
  exact h
theorem way_is {u z w : Int} (hu : -4 ≤ u ∧ u ≤ 9) (hz : 1 ≤ z ∧ z ≤ 50) (hw : 1 ≤ w ∧ w ≤ 9) : wayB (ivMul (ivWhole u) (planeT z w)) u z w = true := by
  have h := ways_all ⟨(u + 4).toNat, by omega⟩ ⟨(z - 1).toNat, by omega⟩ ⟨(w - 1).toNat, by omega⟩
  dsimp only at h
  rw [show (((u + 4).toNat : Nat) : Int) - 4 = u by omega, show 1 + (((z - 1).toNat : Nat) : Int) = z by omega, show 1 + (((w - 1).toNat : Nat) : Int) = w by omega] at h
  exact h
theorem plane_is {z w : Int} (hz : 1 ≤ z ∧ z ≤ 50) (hw : 1 ≤ w ∧ w ≤ 9) : wayB (planeT z w) 1 z w = true := by
  have h := planes_all ⟨(z - 1).toNat, by omega⟩ ⟨(w - 1).toNat, by omega⟩
  dsimp only at h
  rw [show 1 + (((z - 1).toNat : Nat) : Int) = z by omega, show 1 + (((w - 1).toNat : Nat) : Int) = w by omega] at h
  exact h
theorem sqr_whole {n : Int} (h : -50 ≤ n ∧ n ≤ 50) : ivSqr (ivWhole n) = ivWhole (n * n) := by
  have k := sqrs_all ⟨(n + 50).toNat, by omega⟩
  dsimp only at k
  rw [show (((n + 50).toNat : Nat) : Int) - 50 = n by omega] at k
  exact k
theorem root_whole {n : Int} (h : 1 ≤ n ∧ n ≤ 9) : ivRoot (ivWhole (n * n)) = ivWhole n := by
  have k := roots_all ⟨(n - 1).toNat, by omega⟩
  dsimp only at k
  rw [show 1 + (((n - 1).toNat : Nat) : Int) = n by omega] at k
  exact k
theorem sq_bd {n B : Int} (h : -B ≤ n ∧ n ≤ B) : 0 ≤ n * n ∧ n * n ≤ B * B := by
  rcases Int.le_total 0 n with k | k
  · exact ⟨Int.mul_nonneg k k, Int.mul_le_mul h.2 h.2 k (by omega)⟩
  · have e : n * n = (-n) * (-n) := by rw [Int.neg_mul_neg]
    rw [e]
    exact ⟨Int.mul_nonneg (by omega) (by omega), Int.mul_le_mul (by omega) (by omega) (by omega) (by omega)⟩
theorem pr_bd {m n A B : Int} (hm : -A ≤ m ∧ m ≤ A) (hn : -B ≤ n ∧ n ≤ B) : -(A * B) ≤ m * n ∧ m * n ≤ A * B := by
  have key : ∀ {m n : Int}, 0 ≤ m → m ≤ A → -B ≤ n → n ≤ B → -(A * B) ≤ m * n ∧ m * n ≤ A * B := by
    intro m n h0 h1 h2 h3
    have e1 : m * n ≤ m * B := Int.mul_le_mul_of_nonneg_left h3 h0
    have e2 : m * B ≤ A * B := Int.mul_le_mul_of_nonneg_right h1 (by omega)
    have e3 : m * (-B) ≤ m * n := Int.mul_le_mul_of_nonneg_left h2 h0
    rw [Int.mul_neg] at e3
    omega
  rcases Int.le_total 0 m with k | k
  · exact key k hm.2 hn.1 hn.2
  · have h := key (m := -m) (n := -n) (by omega) (by omega) (by omega) (by omega)
    rwa [Int.neg_mul_neg] at h
theorem zero_mul_whole {n : Int} (h : -16384 ≤ n ∧ n ≤ 16384) : ivMul ⟨0, 0, false⟩ (ivWhole n) = ivWhole 0 := by
  rw [mul_comm', mul_zero (wholeRight15 h)]
  decide
theorem one_mul_whole {n : Int} (h : -16384 ≤ n ∧ n ≤ 16384) : ivMul ⟨65536, 65536, false⟩ (ivWhole n) = ivWhole n := by
  rw [mul_comm', mul_one (wholeRight15 h)]
theorem plane_v {a b c : Int} (s : Iv) (ha : -3000 ≤ a ∧ a ≤ 3000) (hb : -3000 ≤ b ∧ b ≤ 3000) (hc : -3000 ≤ c ∧ c ≤ 3000) : hitV (planeS s) (ivWhole a) (ivWhole b) (ivWhole c) = ivWhole 0 := by
  unfold hitV planeS
  dsimp only
  rw [one_mul_whole (by omega), addWhole15 (by omega) (by omega) (by omega), addWhole15 (by omega) (by omega) (by omega), zero_mul_whole (by omega)]
set_option maxHeartbeats 1000000 in
theorem plane_near {x y z u v w : Int} (s : Iv) (hx : -20 ≤ x ∧ x ≤ 20) (hy : -20 ≤ y ∧ y ≤ 20) (hz : 1 ≤ z ∧ z ≤ 50) (hu : -4 ≤ u ∧ u ≤ 4) (hv : -4 ≤ v ∧ v ≤ 4) (hw : 1 ≤ w ∧ w ≤ 9) :
    hitI0 (planeS s) ⟨⟨ivWhole x, ivWhole y, ivWhole (0 - z)⟩, ⟨ivWhole u, ivWhole v, ivWhole w⟩⟩ = 1 ∧ hitT0 (planeS s) ⟨⟨ivWhole x, ivWhole y, ivWhole (0 - z)⟩, ⟨ivWhole u, ivWhole v, ivWhole w⟩⟩ = planeT z w := by
  have ux := sq_bd (n := x) (B := 20) (by omega)
  have uy := sq_bd (n := y) (B := 20) (by omega)
  have uz := sq_bd (n := 0 - z) (B := 50) (by omega)
  have uu := sq_bd (n := u) (B := 4) (by omega)
  have uv := sq_bd (n := v) (B := 4) (by omega)
  have uw := sq_bd (n := w) (B := 9) (by omega)
  have xu := pr_bd (m := x) (n := u) (A := 20) (B := 4) (by omega) (by omega)
  have yv := pr_bd (m := y) (n := v) (A := 20) (B := 4) (by omega) (by omega)
  have zw := pr_bd (m := 0 - z) (n := w) (A := 50) (B := 9) (by omega) (by omega)
  have e0 : ivWhole 0 = ⟨0, 0, false⟩ := by decide
  have hA : hitA (planeS s) ⟨⟨ivWhole x, ivWhole y, ivWhole (0 - z)⟩, ⟨ivWhole u, ivWhole v, ivWhole w⟩⟩ = ivWhole 0 := by
    unfold hitA
    dsimp only
    rw [sqr_whole (by omega), sqr_whole (by omega), sqr_whole (by omega), plane_v s (by omega) (by omega) (by omega)]
  have hB : hitB (planeS s) ⟨⟨ivWhole x, ivWhole y, ivWhole (0 - z)⟩, ⟨ivWhole u, ivWhole v, ivWhole w⟩⟩ = ivWhole (0 - w) := by
    unfold hitB
    dsimp only
    rw [mulWhole15 (by omega) (by omega) (by omega), mulWhole15 (by omega) (by omega) (by omega), mulWhole15 (by omega) (by omega) (by omega), plane_v s (by omega) (by omega) (by omega), subWhole15 (by omega) (by omega) (by omega)]
  have hC : hitC (planeS s) ⟨⟨ivWhole x, ivWhole y, ivWhole (0 - z)⟩, ⟨ivWhole u, ivWhole v, ivWhole w⟩⟩ = ivWhole (2 * z) := by
    unfold hitC
    dsimp only
    rw [sqr_whole (by omega), sqr_whole (by omega), sqr_whole (by omega), plane_v s (by omega) (by omega) (by omega), timesWhole15 (by omega) (by omega) (by omega), subWhole15 (by omega) (by omega) (by omega), show 0 - 2 * (0 - z) = 2 * z by omega]
  have hD : qDet (ivWhole 0) (ivWhole (0 - w)) (ivWhole (2 * z)) = ivWhole (w * w) := by
    have ew : (0 - w) * (0 - w) = w * w := by rw [Int.zero_sub, Int.neg_mul_neg]
    unfold qDet
    rw [sqr_whole (by omega), ew, e0, zero_mul_whole (by omega), subWhole15 (by omega) (by omega) (by omega), show w * w - 0 = w * w by omega]
  have hR : qRoot (ivWhole 0) (ivWhole (0 - w)) (ivWhole (2 * z)) = planeT z w := by
    unfold qRoot planeT
    rw [hD, root_whole hw, subWhole15 (by omega) (by omega) (by omega), show w - (0 - w) = 2 * w by omega]
  have hT := way_of (plane_is hz hw)
  have hq := quad_yes (a := ivWhole 0) (b := ivWhole (0 - w)) (c := ivWhole (2 * z)) (by rw [hR]; exact hT.1) (by rw [hD]; exact wholeRight15 (by omega)) (by rw [hD, wholeForm15 (by omega)]; dsimp only; omega)
  unfold hitI0 hitT0
  rw [hA, hB, hC, hq.1, hq.2, hR]
  exact ⟨rfl, rfl⟩
theorem add_ends' {n : Int} {m : Iv} (hn : -20 ≤ n + 0 ∧ n ≤ 20 ∨ -50 ≤ n ∧ n ≤ 20) (hm : ivRight m = true) (h0 : -100000000 ≤ m.lo) (h1 : m.hi ≤ 100000000) : ivAdd (ivWhole n) m = ⟨n * 65536 + m.lo, n * 65536 + m.hi, false⟩ ∧ ivRight ⟨n * 65536 + m.lo, n * 65536 + m.hi, false⟩ = true := by
  obtain ⟨-, -, hb⟩ := right_bd hm
  have hr : ivRight ⟨n * 65536 + m.lo, n * 65536 + m.hi, false⟩ = true := right_of.2 (by omega)
  refine ⟨?_, hr⟩
  rw [wholeForm15 (by omega)]
  unfold ivAdd
  rw [both_iff.2 ⟨right_of.2 (by omega), hm⟩, if_pos rfl]
  exact of_yes (by dsimp only; omega)
/-- A ray of whole numbers meets a plane where it does. -/
theorem hit_plane {x y z u v w : Int} (hx : -20 ≤ x ∧ x ≤ 20) (hy : -20 ≤ y ∧ y ≤ 20) (hz : 1 ≤ z ∧ z ≤ 50) (hu : -4 ≤ u ∧ u ≤ 4) (hv : -4 ≤ v ∧ v ≤ 4) (hw : 1 ≤ w ∧ w ≤ 9) :
    ∃ t1 t2 p1 p2 q1 q2 z1 z2 : Int, hitP (planeS (ivWhole z)) ⟨⟨ivWhole x, ivWhole y, ivPoint 0⟩, ⟨ivWhole u, ivWhole v, ivWhole w⟩⟩ = (⟨t1, t2, false⟩, ⟨⟨p1, p2, false⟩, ⟨q1, q2, false⟩, ⟨z1, z2, false⟩⟩, 1) ∧
      (ivRight ⟨t1, t2, false⟩ = true ∧ ivRight ⟨p1, p2, false⟩ = true ∧ ivRight ⟨q1, q2, false⟩ = true ∧ ivHas ⟨z1, z2, false⟩ 0 = true) ∧
      (-100000000 ≤ t1 ∧ t2 ≤ 100000000 ∧ -200000000 ≤ p1 ∧ p2 ≤ 200000000 ∧ -200000000 ≤ q1 ∧ q2 ≤ 200000000) ∧
      t1 * w ≤ z * 65536 ∧ z * 65536 ≤ t2 * w ∧ p1 * w ≤ (x * w + u * z) * 65536 ∧ (x * w + u * z) * 65536 ≤ p2 * w ∧ q1 * w ≤ (y * w + v * z) * 65536 ∧ (y * w + v * z) * 65536 ≤ q2 * w := by
  have e0 : ivPoint 0 = ivWhole 0 := by decide
  obtain ⟨n1, n2⟩ := plane_near (ivWhole z) hx hy hz hu hv hw
  obtain ⟨T1, ⟨T2, T3⟩, T4, T5⟩ := way_of (plane_is hz hw)
  obtain ⟨U1, ⟨U2, U3⟩, U4, U5⟩ := way_of (way_is (u := u) (by omega) hz hw)
  obtain ⟨V1, ⟨V2, V3⟩, V4, V5⟩ := way_of (way_is (u := v) (by omega) hz hw)
  obtain ⟨W1, ⟨W2, W3⟩, W4, W5⟩ := way_of (way_is (u := w) (by omega) hz hw)
  have hR : hitR (planeS (ivWhole z)) ⟨⟨ivWhole x, ivWhole y, ivPoint 0⟩, ⟨ivWhole u, ivWhole v, ivWhole w⟩⟩ = ⟨⟨ivWhole x, ivWhole y, ivWhole (0 - z)⟩, ⟨ivWhole u, ivWhole v, ivWhole w⟩⟩ := by
    unfold hitR planeS
    dsimp only
    rw [e0, subWhole15 (by omega) (by omega) (by omega)]
  have hS := hitS_flat (s := planeS (ivWhole z)) (r := ⟨⟨ivWhole x, ivWhole y, ivWhole (0 - z)⟩, ⟨ivWhole u, ivWhole v, ivWhole w⟩⟩) rfl
  rw [n1, n2] at hS
  obtain ⟨a1, a2⟩ := add_ends' (n := x) (by omega) U1 U4 U5
  obtain ⟨b1, b2⟩ := add_ends' (n := y) (by omega) V1 V4 V5
  obtain ⟨c1, c2⟩ := add_ends' (n := 0 - z) (by omega) W1 W4 W5
  have hal : plAlong ⟨⟨ivWhole x, ivWhole y, ivWhole (0 - z)⟩, ⟨ivWhole u, ivWhole v, ivWhole w⟩⟩ (planeT z w) = ⟨⟨x * 65536 + (ivMul (ivWhole u) (planeT z w)).lo, x * 65536 + (ivMul (ivWhole u) (planeT z w)).hi, false⟩, ⟨y * 65536 + (ivMul (ivWhole v) (planeT z w)).lo, y * 65536 + (ivMul (ivWhole v) (planeT z w)).hi, false⟩, ⟨(0 - z) * 65536 + (ivMul (ivWhole w) (planeT z w)).lo, (0 - z) * 65536 + (ivMul (ivWhole w) (planeT z w)).hi, false⟩⟩ := by
    unfold plAlong plAdd plScale
    dsimp only
    rw [a1, b1, c1]
  have hpr : plRight (plAlong ⟨⟨ivWhole x, ivWhole y, ivWhole (0 - z)⟩, ⟨ivWhole u, ivWhole v, ivWhole w⟩⟩ (planeT z w)) = true := by
    rw [hal]
    unfold plRight
    dsimp only
    rw [a2, b2, c2]
    rfl
  have hP : hitP (planeS (ivWhole z)) ⟨⟨ivWhole x, ivWhole y, ivPoint 0⟩, ⟨ivWhole u, ivWhole v, ivWhole w⟩⟩ = (planeT z w, plAlong ⟨⟨ivWhole x, ivWhole y, ivWhole (0 - z)⟩, ⟨ivWhole u, ivWhole v, ivWhole w⟩⟩ (planeT z w), 1) := by
    unfold hitP
    rw [hR, hS]
    exact hitEnd_yes hpr
  rw [hal] at hP
  have hw0 : 0 < w := by omega
  obtain ⟨-, -, tb⟩ := right_bd T1
  obtain ⟨-, -, wb⟩ := right_bd W1
  refine ⟨(planeT z w).lo, (planeT z w).hi, (x * 65536 + (ivMul (ivWhole u) (planeT z w)).lo), (x * 65536 + (ivMul (ivWhole u) (planeT z w)).hi), (y * 65536 + (ivMul (ivWhole v) (planeT z w)).lo), (y * 65536 + (ivMul (ivWhole v) (planeT z w)).hi), ((0 - z) * 65536 + (ivMul (ivWhole w) (planeT z w)).lo), ((0 - z) * 65536 + (ivMul (ivWhole w) (planeT z w)).hi), hP.trans (by rw [right_eta T1]), ⟨?_, a2, b2, ?_⟩, ⟨T4, T5, by omega, by omega, by omega, by omega⟩, by omega, by omega, ?_, ?_, ?_, ?_⟩
  · rw [right_eta T1]; exact T1
  · have l1 : (ivMul (ivWhole w) (planeT z w)).lo ≤ z * 65536 := by
      refine Int.le_of_mul_le_mul_right (a := w) ?_ hw0
      rw [show z * 65536 * w = w * z * 65536 by rw [Int.mul_comm (z * 65536), Int.mul_assoc]]
      exact W2
    have l2 : z * 65536 ≤ (ivMul (ivWhole w) (planeT z w)).hi := by
      refine Int.le_of_mul_le_mul_right (a := w) ?_ hw0
      rw [show z * 65536 * w = w * z * 65536 by rw [Int.mul_comm (z * 65536), Int.mul_assoc]]
      exact W3
    unfold ivHas
    rw [c2, Bool.true_and, Bool.and_eq_true, decide_eq_true_eq, decide_eq_true_eq]
    dsimp only
    omega
  · grind
  · grind
  · grind
  · grind
end Go.Proofs.Ytggohceeeggnmaa
