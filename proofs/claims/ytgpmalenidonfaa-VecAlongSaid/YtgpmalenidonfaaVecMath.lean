/-
  Places and ways in plain numbers: less in less; turned and mirrored; units; what is on a way.
-/
import Derived.Test.YtgpmalenidonfaaVecHand
import Derived.Test.YtgpmalenidonfaaIvMath6
namespace Go.Proofs.Ytgpmalenidonfaa
set_option linter.unusedVariables false

def PRight (a : Pl) : Prop := ivRight a.x = true ∧ ivRight a.y = true ∧ ivRight a.z = true
def PPart (p a : Pl) : Prop := Part p.x a.x ∧ Part p.y a.y ∧ Part p.z a.z
theorem plRight_iff {a : Pl} : plRight a = true ↔ PRight a := by
  unfold plRight PRight
  simp only [Bool.and_eq_true, and_assoc]
theorem tPl_right (s : Six) : PRight (tPl s) := ⟨(tame_small _ _).1, (tame_small _ _).1, (tame_small _ _).1⟩
theorem hInV_part {a : Pl} (h : PRight a) (x y : Int) : PPart (hInV a x y) a := ⟨hIn_part _ _ h.1, hIn_part _ _ h.2.1, hIn_part _ _ h.2.2⟩

/-! Less in less. -/
theorem lessI_eq (a b : Iv) : lessI a b = ivLess a b := rfl
theorem lessP_mk {a b : Pl} (h1 : ivLess a.x b.x = true) (h2 : ivLess a.y b.y = true) (h3 : ivLess a.z b.z = true) : lessP a b = true := by
  unfold lessP
  rw [lessI_eq, lessI_eq, lessI_eq, h1, h2, h3]
  rfl
theorem lessP_add {u v x y : Pl} (h : PPart u x) (k : PPart v y) : lessP (plAdd u v) (plAdd x y) = true :=
  lessP_mk (less_add h.1 k.1) (less_add h.2.1 k.2.1) (less_add h.2.2 k.2.2)
theorem less_sum {a b c p q r : Iv} (h : ivLess a p = true) (k : ivLess b q = true) (l : ivLess c r = true) : ivLess (plSum a b c) (plSum p q r) = true := lessAdd (lessAdd h k) l
theorem less_dot {u v x y : Pl} (h : PPart u x) (k : PPart v y) : ivLess (plDot u v) (plDot x y) = true := less_sum (less_mul h.1 k.1) (less_mul h.2.1 k.2.1) (less_mul h.2.2 k.2.2)
theorem less_len {u x : Pl} (h : PPart u x) : ivLess (plLen2 u) (plLen2 x) = true := less_sum (less_sqr h.1) (less_sqr h.2.1) (less_sqr h.2.2)
theorem lessP_unit {u x : Pl} (h : PPart u x) : lessP (plUnit u) (plUnit x) = true :=
  have r := lessRoot (less_len h)
  lessP_mk (lessDiv (partLess h.1) r) (lessDiv (partLess h.2.1) r) (lessDiv (partLess h.2.2) r)
theorem lessP_along {o d p e : Pl} {t s : Iv} (h : PPart p o) (k : PPart e d) (l : Part s t) : lessP (plAlong ⟨p, e⟩ s) (plAlong ⟨o, d⟩ t) = true :=
  lessP_mk (lessAdd (partLess h.1) (less_mul k.1 l)) (lessAdd (partLess h.2.1) (less_mul k.2.1 l)) (lessAdd (partLess h.2.2) (less_mul k.2.2 l))

/-! Turned, and mirrored. -/
theorem one_right {a : Pl} (h : PRight a) : PRight (plOne a) := ⟨right_neg h.2.1, h.1, h.2.2⟩
theorem mir_right {a : Pl} (h : PRight a) : PRight (plMirror a) := ⟨h.1, right_neg h.2.1, h.2.2⟩
theorem sum_swap (a b c : Iv) : plSum b a c = plSum a b c := by unfold plSum; rw [add_comm' b a]
theorem dot_one {a b : Pl} (h : PRight a) (k : PRight b) : plDot (plOne a) (plOne b) = plDot a b := by
  unfold plDot plOne
  dsimp only
  rw [mul_neg_neg h.2.1 k.2.1, sum_swap]
theorem len_one {a : Pl} (h : PRight a) : plLen2 (plOne a) = plLen2 a := by
  unfold plLen2 plOne
  dsimp only
  rw [sqr_neg h.2.1, sum_swap]
theorem add_one (a b : Pl) : plAdd (plOne a) (plOne b) = plOne (plAdd a b) := by
  unfold plAdd plOne
  dsimp only
  rw [add_neg]
theorem unit_one {a : Pl} (h : PRight a) : plUnit (plOne a) = plOne (plUnit a) := by
  unfold plUnit
  rw [len_one h]
  unfold plBy plOne
  dsimp only
  rw [div_neg h.2.1]
theorem four_one {a : Pl} (h : PRight a) : plOne (plOne (plOne (plOne a))) = a := by
  unfold plOne
  dsimp only
  rw [neg_neg_right h.1, neg_neg_right h.2.1]
theorem dot_mir {a b : Pl} (h : PRight a) (k : PRight b) : plDot (plMirror a) (plMirror b) = plDot a b := by
  unfold plDot plMirror
  dsimp only
  rw [mul_neg_neg h.2.1 k.2.1]
theorem unit_mir {a : Pl} (h : PRight a) : plUnit (plMirror a) = plMirror (plUnit a) := by
  unfold plUnit plLen2 plMirror plBy
  dsimp only
  rw [sqr_neg h.2.1, div_neg h.2.1]
theorem mir_mir {a : Pl} (h : PRight a) : plMirror (plMirror a) = a := by
  unfold plMirror
  dsimp only
  rw [neg_neg_right h.2.1]
theorem turn_cases (a : Pl) (k : Int) : (k % 4 = 0 ∧ plTurn a k = a) ∨ (k % 4 = 1 ∧ plTurn a k = plOne a) ∨ (k % 4 = 2 ∧ plTurn a k = plOne (plOne a)) ∨ (k % 4 = 3 ∧ plTurn a k = plOne (plOne (plOne a))) := by
  obtain h | h | h | h : k % 4 = 0 ∨ k % 4 = 1 ∨ k % 4 = 2 ∨ k % 4 = 3 := by omega
  all_goals simp [plTurn, h]
theorem turn_of {a : Pl} {k m : Int} (h : k % 4 = m) : plTurn a k = if m = 0 then a else if m = 1 then plOne a else if m = 2 then plOne (plOne a) else plOne (plOne (plOne a)) := by
  unfold plTurn
  rw [h]
theorem turn_facts {x y : Pl} (h : PRight x) (g : PRight y) (k : Int) :
    plDot (plTurn x k) (plTurn y k) = plDot x y ∧ plLen2 (plTurn x k) = plLen2 x ∧ plAdd (plTurn x k) (plTurn y k) = plTurn (plAdd x y) k ∧ plUnit (plTurn x 1) = plTurn (plUnit x) 1 ∧
    plTurn x (4 * k) = x ∧ plTurn (plTurn x k) (-k) = x := by
  have h1 := one_right h
  have h2 := one_right h1
  have g1 := one_right g
  have g2 := one_right g1
  refine ⟨?_, ?_, ?_, ?_, ?_, ?_⟩
  · obtain e | e | e | e : k % 4 = 0 ∨ k % 4 = 1 ∨ k % 4 = 2 ∨ k % 4 = 3 := by omega
    all_goals rw [turn_of e, turn_of e]; simp [dot_one h g, dot_one h1 g1, dot_one h2 g2]
  · obtain e | e | e | e : k % 4 = 0 ∨ k % 4 = 1 ∨ k % 4 = 2 ∨ k % 4 = 3 := by omega
    all_goals rw [turn_of e]; simp [len_one h, len_one h1, len_one h2]
  · obtain e | e | e | e : k % 4 = 0 ∨ k % 4 = 1 ∨ k % 4 = 2 ∨ k % 4 = 3 := by omega
    all_goals rw [turn_of e, turn_of e, turn_of e]; simp [add_one]
  · rw [turn_of (show (1 : Int) % 4 = 1 by decide), turn_of (show (1 : Int) % 4 = 1 by decide)]
    simp [unit_one h]
  · rw [turn_of (show 4 * k % 4 = 0 by omega)]
    rfl
  · obtain e | e | e | e : k % 4 = 0 ∨ k % 4 = 1 ∨ k % 4 = 2 ∨ k % 4 = 3 := by omega
    · rw [turn_of e, turn_of (show -k % 4 = 0 by omega)]; simp
    · rw [turn_of e, turn_of (show -k % 4 = 3 by omega)]; simp [four_one h]
    · rw [turn_of e, turn_of (show -k % 4 = 2 by omega)]; simp [four_one h]
    · rw [turn_of e, turn_of (show -k % 4 = 1 by omega)]; simp [four_one h]
/-- VecLess in plain numbers. -/
theorem less5_facts {x y u v : Pl} (hx : PRight x) (hy : PRight y) (hu : PPart u x) (hv : PPart v y) (k : Int) :
    (lessP (plAdd u v) (plAdd x y) = true ∧ lessP (plUnit u) (plUnit x) = true ∧ lessI (plDot u v) (plDot x y) = true ∧ lessI (plLen2 u) (plLen2 x) = true) ∧
    plDot (plTurn x k) (plTurn y k) = plDot x y ∧ plLen2 (plTurn x k) = plLen2 x ∧ plTurn (plAdd x y) k = plAdd (plTurn x k) (plTurn y k) ∧ plUnit (plTurn x 1) = plTurn (plUnit x) 1 ∧
    plDot (plMirror x) (plMirror y) = plDot x y ∧ plUnit (plMirror x) = plMirror (plUnit x) ∧ plMirror (plMirror x) = x ∧ plTurn x (4 * k) = x ∧ plTurn (plTurn x k) (-k) = x := by
  obtain ⟨t1, t2, t3, t4, t5, t6⟩ := turn_facts hx hy k
  exact ⟨⟨lessP_add hu hv, lessP_unit hu, less_dot hu hv, less_len hu⟩, t1, t2, t3.symm, t4, dot_mir hx hy, unit_mir hx, mir_mir hx, t5, t6⟩

/-! On a way. -/
theorem scale_zero {a : Pl} (h : PRight a) : plScale a ⟨0, 0, false⟩ = ⟨⟨0, 0, false⟩, ⟨0, 0, false⟩, ⟨0, 0, false⟩⟩ := by
  unfold plScale
  rw [mul_zero h.1, mul_zero h.2.1, mul_zero h.2.2]
theorem scale_one {a : Pl} (h : PRight a) : plScale a ⟨65536, 65536, false⟩ = a := by
  unfold plScale
  rw [mul_one h.1, mul_one h.2.1, mul_one h.2.2]
theorem scale_minus {a : Pl} (h : PRight a) : plScale a ⟨-65536, -65536, false⟩ = ⟨ivNeg a.x, ivNeg a.y, ivNeg a.z⟩ := by
  unfold plScale
  rw [mul_minus h.1, mul_minus h.2.1, mul_minus h.2.2]
theorem hull_both {x y : Iv} (h : ivRight x = true) (k : ivRight y = true) : ivInside x (ivHull x y) = true ∧ ivInside y (ivHull x y) = true := by
  have b := right_bd h
  have c := right_bd k
  unfold ivHull
  rw [if_pos (both_iff.2 ⟨h, k⟩), of_yes (by omega)]
  exact ⟨inside_iff.2 ⟨h, right_of.2 (by omega), by dsimp only; omega⟩, inside_iff.2 ⟨k, right_of.2 (by omega), by dsimp only; omega⟩⟩
theorem along_facts {o d p e : Pl} {t s : Iv} (ho : PRight o) (hd : PRight d) (hp : PPart p o) (he : PPart e d) (hs : Part s t) :
    plAlong ⟨o, d⟩ ⟨0, 0, false⟩ = o ∧ plAlong ⟨o, d⟩ ⟨65536, 65536, false⟩ = plAdd o d ∧ lessP (plAlong ⟨p, e⟩ s) (plAlong ⟨o, d⟩ t) = true ∧ plInside o (plHull o d) = true ∧ plInside d (plHull o d) = true ∧
    plAdd o (plScale d ⟨-65536, -65536, false⟩) = plSub o d := by
  have h1 := hull_both ho.1 hd.1
  have h2 := hull_both ho.2.1 hd.2.1
  have h3 := hull_both ho.2.2 hd.2.2
  refine ⟨?_, ?_, lessP_along hp he hs, ?_, ?_, ?_⟩
  · unfold plAlong
    rw [scale_zero hd]
    unfold plAdd
    dsimp only
    rw [add_zero ho.1, add_zero ho.2.1, add_zero ho.2.2]
  · unfold plAlong
    rw [scale_one hd]
  · unfold plInside plHull
    rw [h1.1, h2.1, h3.1]
    rfl
  · unfold plInside plHull
    rw [h1.2, h2.2, h3.2]
    rfl
  · rw [scale_minus hd]
    rfl

/-! Units. -/
theorem sum_right {a b c : Iv} (h : ivRight (plSum a b c) = true) : (ivRight a = true ∧ ivRight b = true ∧ ivRight c = true) ∧ plSum a b c = ⟨a.lo + b.lo + c.lo, a.hi + b.hi + c.hi, false⟩ := by
  have h1 := rights_add h
  have h2 := rights_add h1.1
  refine ⟨⟨h2.1, h2.2, h1.2⟩, ?_⟩
  have e : ivAdd a b = ⟨a.lo + b.lo, a.hi + b.hi, false⟩ := by
    have h3 := h1.1
    unfold ivAdd at h3 ⊢
    rw [if_pos (both_iff.2 h2)] at h3 ⊢
    exact of_yes (right_of_of.1 h3)
  unfold plSum at h ⊢
  rw [e] at h h1 ⊢
  unfold ivAdd at h ⊢
  rw [if_pos (both_iff.2 h1)] at h ⊢
  exact of_yes (right_of_of.1 h)
theorem root_ends {x : Iv} (h : ivRight (ivRoot x) = true) : 0 ≤ x.lo ∧ 0 ≤ (ivRoot x).lo ∧ (ivRoot x).lo ≤ (ivRoot x).hi ∧ (ivRoot x).lo * (ivRoot x).lo ≤ x.lo * 65536 ∧ x.hi * 65536 ≤ (ivRoot x).hi * (ivRoot x).hi := by
  have hx := rights_root h
  have b := right_bd hx
  have h0 : 0 ≤ x.lo := by
    by_cases h0 : x.lo < 0
    · rw [root_none h0] at h; cases h
    · omega
  obtain ⟨r1, r2, r3⟩ := rootN_yes (n := x.lo) ⟨h0, by omega⟩ false
  obtain ⟨s1, s2, s3⟩ := rootN_yes (n := x.hi) ⟨by omega, by omega⟩ true
  have u1 := up_ge (x.lo * 65536)
  have u2 := up_ge (x.hi * 65536)
  have f1 := flRoot_bd (x.lo * 65536) (by omega) (by omega)
  have f2 := flRoot_bd (x.hi * 65536) (by omega) (by omega)
  have m1 := flRoot_mono (n := x.lo * 65536) (m := x.hi * 65536) (by omega) (by omega) (by omega)
  have hg : x.hi * 65536 ≤ upRoot (x.hi * 65536) true * upRoot (x.hi * 65536) true := by
    unfold upRoot
    cases hc : (flRoot (x.hi * 65536) * flRoot (x.hi * 65536) == x.hi * 65536)
    · simp only [Bool.true_and, Bool.not_false, if_true]; omega
    · have := eq_of_beq hc
      simp only [Bool.true_and, Bool.not_true, Bool.false_eq_true, if_false]; omega
  have e : ivRoot x = ⟨upRoot (x.lo * 65536) false, upRoot (x.hi * 65536) true, false⟩ := by
    unfold ivRoot
    rw [hx, r1, s1]
    simp only [Bool.and_true, if_true]
    exact of_yes (by omega)
  rw [e]
  dsimp only
  refine ⟨h0, r2, by omega, ?_, hg⟩
  rw [u1.2.2]
  omega
theorem sqr_of_lo {a : Iv} (h : ivRight (ivSqr a) = true) : (ivSqr a).lo * 65536 ≤ a.lo * a.lo ∧ a.lo * a.lo ≤ (ivSqr a).hi * 65536 := by
  obtain ⟨s1, s2, s3, s4, s5, s6⟩ := sqr_ends h
  have b := right_bd (rights_sqr h)
  refine ⟨?_, s4⟩
  have q : 0 ≤ a.lo * a.lo := by
    by_cases hp : 0 ≤ a.lo
    · exact Int.mul_nonneg hp hp
    · have := Int.mul_nonneg (show 0 ≤ -a.lo by omega) (show 0 ≤ -a.lo by omega)
      rwa [Int.neg_mul_neg] at this
  by_cases c1 : 0 < a.lo
  · exact s2 c1
  · by_cases c2 : a.hi < 0
    · have := s3 c2
      have h2 := sq_le_sq (x := -a.hi) (y := -a.lo) (by omega) (by omega)
      rw [Int.neg_mul_neg, Int.neg_mul_neg] at h2
      omega
    · have := s1 (by omega)
      omega
theorem unit_has {x : Pl} (h : plRight (plUnit x) = true) (hs : ivRight (plLen2 (plUnit x)) = true) : ivHas (plLen2 (plUnit x)) 65536 = true := by
  obtain ⟨hx, hy, hz⟩ := plRight_iff.1 h
  have hL := (both_iff.1 (div_right hx).1).2
  have hO := (div_right hx).2.1
  obtain ⟨l0, l1, l2, l3, l4⟩ := root_ends hL
  obtain ⟨⟨q1, q2, q3⟩, qe⟩ := sum_right (rights_root hL)
  obtain ⟨⟨r1, r2, r3⟩, re⟩ := sum_right hs
  have b1 := right_bd (rights_sqr q1)
  have b2 := right_bd (rights_sqr q2)
  have b3 := right_bd (rights_sqr q3)
  have d1 := fun q hq => div_encloses (p := x.x.lo) (q := q) hx (by omega) hq
  have d2 := fun q hq => div_encloses (p := x.y.lo) (q := q) hy (by omega) hq
  have d3 := fun q hq => div_encloses (p := x.z.lo) (q := q) hz (by omega) hq
  have hr : ivRoot (plLen2 x) = ivRoot (plSum (ivSqr x.x) (ivSqr x.y) (ivSqr x.z)) := rfl
  have el : (plSum (ivSqr x.x) (ivSqr x.y) (ivSqr x.z)).lo = (ivSqr x.x).lo + (ivSqr x.y).lo + (ivSqr x.z).lo := by rw [qe]
  have eh : (plSum (ivSqr x.x) (ivSqr x.y) (ivSqr x.z)).hi = (ivSqr x.x).hi + (ivSqr x.y).hi + (ivSqr x.z).hi := by rw [qe]
  unfold plLen2 at l0 l3 l4
  rw [el] at l3
  rw [eh] at l4
  rw [← hr] at l3 l4
  have w1 := sqr_of_lo q1
  have w2 := sqr_of_lo q2
  have w3 := sqr_of_lo q3
  have hpos : 0 < (ivRoot (plLen2 x)).lo := by
    unfold Off at hO
    omega
  generalize hLL : ivRoot (plLen2 x) = L at *
  have sq0 := Int.mul_pos hpos hpos
  obtain ⟨n, hn⟩ : ∃ n, x.x.lo * x.x.lo + x.y.lo * x.y.lo + x.z.lo * x.z.lo = n := ⟨_, rfl⟩
  have hl : L.lo * L.lo ≤ n := by omega
  have hh : n ≤ L.hi * L.hi := by omega
  have key : ∀ (u : Iv) (p : Int), ivRight (ivSqr u) = true → (∀ q, L.lo ≤ q ∧ q ≤ L.hi → (0 < q ∧ u.lo * q ≤ p * 65536 ∧ p * 65536 ≤ u.hi * q) ∨ (q < 0 ∧ p * 65536 ≤ u.lo * q ∧ u.hi * q ≤ p * 65536)) →
      (ivSqr u).lo * n ≤ p * p * 65536 ∧ p * p * 65536 ≤ (ivSqr u).hi * n := by
    intro u p hu hq
    have a1 := hq L.lo (by omega)
    have a2 := hq L.hi (by omega)
    have t := unit_part (u := u) (P := p * 65536) (rl := L.lo) (rh := L.hi) (n := n) hu hpos l2 hl hh (by omega) (by omega) (by omega) (by omega)
    rw [show p * 65536 * (p * 65536) = p * p * 65536 * 65536 by rw [Int.mul_assoc, Int.mul_left_comm 65536 p, ← Int.mul_assoc, ← Int.mul_assoc],
      Int.mul_right_comm, Int.mul_right_comm (ivSqr u).hi] at t
    omega
  have ux : (plUnit x).x = ivDiv x.x L := by rw [← hLL]; rfl
  have uy : (plUnit x).y = ivDiv x.y L := by rw [← hLL]; rfl
  have uz : (plUnit x).z = ivDiv x.z L := by rw [← hLL]; rfl
  rw [ux] at r1
  rw [uy] at r2
  rw [uz] at r3
  have k1 := key _ _ r1 d1
  have k2 := key _ _ r2 d2
  have k3 := key _ _ r3 d3
  have ee : plLen2 (plUnit x) = ⟨(ivSqr (plUnit x).x).lo + (ivSqr (plUnit x).y).lo + (ivSqr (plUnit x).z).lo, (ivSqr (plUnit x).x).hi + (ivSqr (plUnit x).y).hi + (ivSqr (plUnit x).z).hi, false⟩ := re
  have npos : 0 < n := by omega
  rw [ux, uy, uz] at ee
  unfold ivHas
  rw [hs, ee]
  simp only [Bool.true_and, Bool.and_eq_true, decide_eq_true_eq]
  have z1 : ((ivSqr (ivDiv x.x L)).lo + (ivSqr (ivDiv x.y L)).lo + (ivSqr (ivDiv x.z L)).lo) * n ≤ 65536 * n := by
    rw [Int.add_mul, Int.add_mul]; subst hn; omega
  have z2 : 65536 * n ≤ ((ivSqr (ivDiv x.x L)).hi + (ivSqr (ivDiv x.y L)).hi + (ivSqr (ivDiv x.z L)).hi) * n := by
    rw [Int.add_mul, Int.add_mul]; subst hn; omega
  exact ⟨Int.le_of_mul_le_mul_right z1 npos, Int.le_of_mul_le_mul_right z2 npos⟩

/-! Pythagorean ways. -/
def pyOk (m n : Int) : Bool :=
  let a := m * m - n * n
  let b := 2 * m * n
  let c := m * m + n * n
  let p := plUnit ⟨ivWhole a, ivWhole 0, ivWhole (-b)⟩
  let q := plTurn (plUnit ⟨ivWhole 0, ivWhole (-a), ivWhole (-b)⟩) 1
  plRight p && decide (p.x.lo * c ≤ a * 65536 ∧ a * 65536 ≤ p.x.hi * c ∧ p.z.lo * c ≤ -b * 65536 ∧ -b * 65536 ≤ p.z.hi * c ∧ p.x.hi - p.x.lo ≤ 1) && decide (p.y.lo = 0 ∧ p.y.hi = 0 ∧ p.y.no = false) &&
    decide (q.x.lo = p.x.lo ∧ q.x.hi = p.x.hi ∧ q.x.no = p.x.no ∧ q.y.lo = p.y.lo ∧ q.y.hi = p.y.hi ∧ q.y.no = p.y.no ∧ q.z.lo = p.z.lo ∧ q.z.hi = p.z.hi ∧ q.z.no = p.z.no)
theorem py_all : ∀ m : Fin 5, ∀ n : Fin 5, n.val ≤ m.val → pyOk ((m.val : Int) + 2) ((n.val : Int) + 1) = true := by decide +kernel
theorem py_facts {m n : Int} (hm : 2 ≤ m ∧ m ≤ 6) (hn : 1 ≤ n ∧ n ≤ m - 1) :
    ∃ p : Pl, plUnit ⟨ivWhole (m * m - n * n), ivWhole 0, ivWhole (-(2 * m * n))⟩ = p ∧ plTurn (plUnit ⟨ivWhole 0, ivWhole (-(m * m - n * n)), ivWhole (-(2 * m * n))⟩) 1 = p ∧ plRight p = true ∧
      p.x.lo * (m * m + n * n) ≤ (m * m - n * n) * 65536 ∧ (m * m - n * n) * 65536 ≤ p.x.hi * (m * m + n * n) ∧ p.z.lo * (m * m + n * n) ≤ -(2 * m * n) * 65536 ∧ -(2 * m * n) * 65536 ≤ p.z.hi * (m * m + n * n) ∧
      p.x.hi - p.x.lo ≤ 1 ∧ p.y = ⟨0, 0, false⟩ := by
  have h := py_all ⟨(m - 2).toNat, by omega⟩ ⟨(n - 1).toNat, by omega⟩ (by dsimp only; omega)
  dsimp only at h
  rw [show (((m - 2).toNat : Nat) : Int) + 2 = m by omega, show (((n - 1).toNat : Nat) : Int) + 1 = n by omega] at h
  unfold pyOk at h
  simp only [Bool.and_eq_true, decide_eq_true_eq] at h
  obtain ⟨⟨⟨h1, h2, h3, h4, h5, h6⟩, h7, h8, h9⟩, g1, g2, g3, g4, g5, g6, g7, g8, g9⟩ := h
  have ext : ∀ a b : Iv, a.lo = b.lo → a.hi = b.hi → a.no = b.no → a = b := fun a b e1 e2 e3 => by
    obtain ⟨a1, a2, a3⟩ := a
    obtain ⟨b1, b2, b3⟩ := b
    dsimp only at e1 e2 e3
    rw [e1, e2, e3]
  have extP : ∀ a b : Pl, a.x = b.x → a.y = b.y → a.z = b.z → a = b := fun a b e1 e2 e3 => by
    obtain ⟨a1, a2, a3⟩ := a
    obtain ⟨b1, b2, b3⟩ := b
    dsimp only at e1 e2 e3
    rw [e1, e2, e3]
  exact ⟨_, rfl, extP _ _ (ext _ _ g1 g2 g3) (ext _ _ g4 g5 g6) (ext _ _ g7 g8 g9), h1, h2, h3, h4, h5, h6, ext _ _ h7 h8 h9⟩

end Go.Proofs.Ytgpmalenidonfaa

