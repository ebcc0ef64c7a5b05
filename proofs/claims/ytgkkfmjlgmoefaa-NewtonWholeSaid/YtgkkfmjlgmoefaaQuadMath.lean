/-
  Where a square sum is nothing, in plain numbers: the root that is told, less of less, what lies in it.
-/
import Derived.Test.YtgkkfmjlgmoefaaIvMath6
import Derived.Test.YtgkkfmjlgmoefaaTriMath
namespace Go.Proofs.Ytgkkfmjlgmoefaa
set_option linter.unusedVariables false

def qDet (a b c : Iv) : Iv := ivSub (ivSqr b) (ivMul a c)
def qRoot (a b c : Iv) : Iv := ivDiv c (ivSub (ivRoot (qDet a b c)) b)
def qIs (a b c : Iv) : Int := if triNA ⟨0, 0, false⟩ (qDet a b c) = 1 then (if ivRight (qRoot a b c) then 1 else 0) else triNA ⟨0, 0, false⟩ (qDet a b c)
def qNear (a b c : Iv) : Iv := if qIs a b c = 1 then qRoot a b c else ivNone

theorem quad_cases (a b c : Iv) : (qIs a b c = 1 ∧ qNear a b c = qRoot a b c ∧ ivRight (qRoot a b c) = true ∧ ivRight (qDet a b c) = true ∧ 0 ≤ (qDet a b c).lo) ∨
    (qIs a b c = 2 ∧ qNear a b c = ivNone ∧ ivRight (qDet a b c) = true ∧ (qDet a b c).hi < 0) ∨ (qIs a b c = 0 ∧ qNear a b c = ivNone) := by
  unfold qNear
  rcases triNA_cases ⟨0, 0, false⟩ (qDet a b c) with ⟨e, hb, h⟩ | ⟨e, hb, h⟩ | e
  · cases hr : ivRight (qRoot a b c)
    · have hq : qIs a b c = 0 := by unfold qIs; rw [if_pos e, hr]; rfl
      rw [hq]
      exact .inr (.inr ⟨rfl, rfl⟩)
    · have hq : qIs a b c = 1 := by unfold qIs; rw [if_pos e, hr]; rfl
      rw [hq]
      exact .inl ⟨rfl, rfl, rfl, (both_iff.1 hb).2, h⟩
  · have hq : qIs a b c = 2 := by unfold qIs; rw [e]; rfl
    rw [hq]
    exact .inr (.inl ⟨rfl, rfl, (both_iff.1 hb).2, h⟩)
  · have hq : qIs a b c = 0 := by unfold qIs; rw [e]; rfl
    rw [hq]
    exact .inr (.inr ⟨rfl, rfl⟩)
theorem zero_both {d : Iv} (h : ivRight d = true) : ivBoth ⟨0, 0, false⟩ d = true := both_iff.2 ⟨by decide, h⟩
theorem quad_yes {a b c : Iv} (h : ivRight (qRoot a b c) = true) (k : ivRight (qDet a b c) = true) (l : 0 ≤ (qDet a b c).lo) : qIs a b c = 1 ∧ qNear a b c = qRoot a b c := by
  have hq : qIs a b c = 1 := by unfold qIs; rw [if_pos (triNA_yes (zero_both k) l), h]; rfl
  refine ⟨hq, ?_⟩
  unfold qNear
  rw [if_pos hq]
theorem quad_no {a b c : Iv} (k : ivRight (qDet a b c) = true) (l : (qDet a b c).hi < 0) : qIs a b c = 2 ∧ qNear a b c = ivNone := by
  have hq : qIs a b c = 2 := by unfold qIs; rw [triNA_no (zero_both k) l]; rfl
  refine ⟨hq, ?_⟩
  unfold qNear
  rw [hq]
  rfl

/-! Less in less. -/
theorem lessNeg {p x : Iv} (h : ivLess p x = true) : ivLess (ivNeg p) (ivNeg x) = true := by
  cases hx : ivRight x
  · exact lessBad (by rw [neg_bad hx, right_none])
  · exact less_neg (lessPart h hx)
theorem lessSub {p q x y : Iv} (h : ivLess p x = true) (k : ivLess q y = true) : ivLess (ivSub p q) (ivSub x y) = true := lessAdd h (lessNeg k)
theorem less_det {x y z p q r : Iv} (h : Part p x) (k : Part q y) (l : Part r z) : ivLess (qDet p q r) (qDet x y z) = true := lessSub (less_sqr k) (less_mul h l)
theorem less_qroot {x y z p q r : Iv} (h : Part p x) (k : Part q y) (l : Part r z) : ivLess (qRoot p q r) (qRoot x y z) = true :=
  lessDiv (partLess l) (lessSub (lessRoot (less_det h k l)) (partLess k))
theorem quad_less {x y z p q r : Iv} (h : Part p x) (k : Part q y) (l : Part r z) :
    (qIs x y z = 1 ∧ qIs p q r = 1 ∧ ivInside (qNear p q r) (qNear x y z) = true ∧ ivRight (qNear p q r) = true) ∨
    (qIs x y z = 2 ∧ qIs p q r = 2 ∧ ivRight (qNear p q r) = false) ∨ (qIs x y z = 0 ∧ qIs p q r = 1 ∧ ivRight (qNear p q r) = true) ∨
    (qIs x y z = 0 ∧ qIs p q r = 2 ∧ ivRight (qNear p q r) = false) ∨ (qIs x y z = 0 ∧ qIs p q r = 0 ∧ ivRight (qNear p q r) = false) := by
  have ld := less_det h k l
  have lr := less_qroot h k l
  rcases quad_cases x y z with ⟨e, n, hr, hd, h0⟩ | ⟨e, n, hd, h0⟩ | ⟨e, n⟩
  · have pd := lessPart ld hd
    have pr := lessPart lr hr
    have b := part_bd pd
    obtain ⟨e', n'⟩ := quad_yes (a := p) (b := q) (c := r) pr.1 pd.1 (by omega)
    refine .inl ⟨e, e', ?_, ?_⟩
    · rw [n, n']; exact inside_iff.2 ⟨pr.1, pr.2.1, pr.2.2⟩
    · rw [n']; exact pr.1
  · have pd := lessPart ld hd
    have b := part_bd pd
    obtain ⟨e', n'⟩ := quad_no (a := p) (b := q) (c := r) pd.1 (by omega)
    exact .inr (.inl ⟨e, e', by rw [n', right_none]⟩)
  · rcases quad_cases p q r with ⟨e', n', hr, -⟩ | ⟨e', n', -⟩ | ⟨e', n'⟩
    · exact .inr (.inr (.inl ⟨e, e', by rw [n', hr]⟩))
    · exact .inr (.inr (.inr (.inl ⟨e, e', by rw [n', right_none]⟩)))
    · exact .inr (.inr (.inr (.inr ⟨e, e', by rw [n', right_none]⟩)))

/-! What lies in what: numbers that are fractions, too: P / Q. -/
theorem add_ends {x y : Iv} (h : ivRight (ivAdd x y) = true) : (ivRight x = true ∧ ivRight y = true) ∧ (ivAdd x y).lo = x.lo + y.lo ∧ (ivAdd x y).hi = x.hi + y.hi := by
  have r := rights_add h
  refine ⟨r, ?_⟩
  unfold ivAdd at h ⊢
  rw [if_pos (both_iff.2 r)] at h ⊢
  rw [of_yes (right_of_of.1 h)]
  exact ⟨rfl, rfl⟩
theorem rights_neg {x : Iv} (h : ivRight (ivNeg x) = true) : ivRight x = true := by
  cases hx : ivRight x
  · rw [neg_bad hx, right_none] at h; cases h
  · rfl
theorem sub_ends {x y : Iv} (h : ivRight (ivSub x y) = true) : (ivRight x = true ∧ ivRight y = true) ∧ (ivSub x y).lo = x.lo - y.hi ∧ (ivSub x y).hi = x.hi - y.lo := by
  obtain ⟨⟨r1, r2⟩, e1, e2⟩ := add_ends (x := x) (y := ivNeg y) h
  have r3 := rights_neg r2
  rw [neg_form r3] at e1 e2
  exact ⟨⟨r1, r3⟩, by show (ivAdd x (ivNeg y)).lo = _; rw [neg_form r3, e1]; dsimp only; omega, by show (ivAdd x (ivNeg y)).hi = _; rw [neg_form r3, e2]; dsimp only; omega⟩
theorem two_ends {x : Iv} (h : ivRight (ivTimes x 2) = true) : ivRight x = true ∧ (ivTimes x 2).lo = 2 * x.lo ∧ (ivTimes x 2).hi = 2 * x.hi := by
  have r : ivRight x = true := by
    cases hx : ivRight x
    · unfold ivTimes at h
      rw [hx] at h
      cases h
    · rfl
  have b := right_bd r
  refine ⟨r, ?_⟩
  unfold ivTimes at h ⊢
  rw [r, show isIn 2 = true by decide] at h ⊢
  simp only [Bool.and_true, if_true] at h ⊢
  rw [of_yes (right_of_of.1 h)]
  dsimp only
  omega
theorem mul_frac {x y : Iv} {a P Q : Int} (h : ivRight (ivMul x y) = true) (hQ : 0 ≤ Q) (ha : x.lo ≤ a ∧ a ≤ x.hi) (hp : y.lo * Q ≤ P ∧ P ≤ y.hi * Q) :
    (ivMul x y).lo * 65536 * Q ≤ a * P ∧ a * P ≤ (ivMul x y).hi * 65536 * Q := by
  have r := rights_mul h
  unfold ivMul ivOut at h ⊢
  rw [if_pos (both_iff.2 r)] at h ⊢
  have hr := right_of_of.1 h
  rw [of_yes hr]
  simp only [fdiv_one] at hr ⊢
  have m := mul_between2 ha.1 ha.2 hp.1 hp.2
  have e : ∀ u v : Int, u * (v * Q) = u * v * Q := fun u v => (Int.mul_assoc u v Q).symm
  simp only [e] at m
  unfold min4 max4 at m
  have lo : ∀ t, min4 (x.lo * y.lo) (x.lo * y.hi) (x.hi * y.lo) (x.hi * y.hi) ≤ t → min4 (x.lo * y.lo) (x.lo * y.hi) (x.hi * y.lo) (x.hi * y.hi) / 65536 * 65536 * Q ≤ t * Q := fun t ht =>
    Int.mul_le_mul_of_nonneg_right (by omega) hQ
  have hi : ∀ t, t ≤ max4 (x.lo * y.lo) (x.lo * y.hi) (x.hi * y.lo) (x.hi * y.hi) → t * Q ≤ -(-max4 (x.lo * y.lo) (x.lo * y.hi) (x.hi * y.lo) (x.hi * y.hi) / 65536) * 65536 * Q := fun t ht =>
    Int.mul_le_mul_of_nonneg_right (by omega) hQ
  have l1 := lo (x.lo * y.lo) (by unfold min4; omega)
  have l2 := lo (x.lo * y.hi) (by unfold min4; omega)
  have l3 := lo (x.hi * y.lo) (by unfold min4; omega)
  have l4 := lo (x.hi * y.hi) (by unfold min4; omega)
  have h1 := hi (x.lo * y.lo) (by unfold max4; omega)
  have h2 := hi (x.lo * y.hi) (by unfold max4; omega)
  have h3 := hi (x.hi * y.lo) (by unfold max4; omega)
  have h4 := hi (x.hi * y.hi) (by unfold max4; omega)
  generalize min4 (x.lo * y.lo) (x.lo * y.hi) (x.hi * y.lo) (x.hi * y.hi) / 65536 * 65536 * Q = L at *
  generalize -(-max4 (x.lo * y.lo) (x.lo * y.hi) (x.hi * y.lo) (x.hi * y.hi) / 65536) * 65536 * Q = H at *
  omega
theorem sq_nonneg' (x : Int) : 0 ≤ x * x := by
  by_cases hp : 0 ≤ x
  · exact Int.mul_nonneg hp hp
  · have := Int.mul_nonneg (show 0 ≤ -x by omega) (show 0 ≤ -x by omega)
    rwa [Int.neg_mul_neg] at this
theorem sq_le_neg {x y : Int} (hx : x ≤ 0) (h : y ≤ x) : x * x ≤ y * y := by
  have := sq_le_sq (x := -x) (y := -y) (by omega) (by omega)
  rwa [Int.neg_mul_neg, Int.neg_mul_neg] at this
theorem sqr_frac {t : Iv} {P Q : Int} (h : ivRight (ivSqr t) = true) (hQ : 0 < Q) (hp : t.lo * Q ≤ P ∧ P ≤ t.hi * Q) :
    (ivSqr t).lo * 65536 * (Q * Q) ≤ P * P ∧ P * P ≤ (ivSqr t).hi * 65536 * (Q * Q) := by
  obtain ⟨s1, s2, s3, s4, s5, s6⟩ := sqr_ends h
  have b := right_bd (rights_sqr h)
  have e4 : ∀ x y : Int, x * y * (x * y) = x * x * (y * y) := fun x y => by rw [Int.mul_assoc, Int.mul_left_comm y x y, ← Int.mul_assoc]
  have hQQ : 0 ≤ Q * Q := sq_nonneg' Q
  have m := (sq_between hp.1 hp.2).1
  rw [e4, e4] at m
  have m1 := Int.mul_le_mul_of_nonneg_right s4 hQQ
  have m2 := Int.mul_le_mul_of_nonneg_right s5 hQQ
  refine ⟨?_, by omega⟩
  by_cases c1 : 0 < t.lo
  · have g := Int.mul_nonneg (show 0 ≤ t.lo by omega) (show 0 ≤ Q by omega)
    have n1 := sq_le_sq g hp.1
    rw [e4] at n1
    have n2 := Int.mul_le_mul_of_nonneg_right (s2 c1) hQQ
    omega
  · by_cases c2 : t.hi < 0
    · have g := Int.mul_nonneg (show 0 ≤ -t.hi by omega) (show 0 ≤ Q by omega)
      rw [Int.neg_mul] at g
      have n1 := sq_le_neg (x := t.hi * Q) (y := P) (by omega) hp.2
      rw [e4] at n1
      have n2 := Int.mul_le_mul_of_nonneg_right (s3 c2) hQQ
      omega
    · have n1 := s1 (by omega)
      have n2 := Int.mul_le_mul_of_nonneg_right (show (ivSqr t).lo * 65536 ≤ 0 by omega) hQQ
      have n3 := sq_nonneg' P
      omega

/-- The sum of squares at t. -/
def qSum (x y z t : Iv) : Iv := ivAdd (ivAdd (ivMul x (ivSqr t)) (ivTimes (ivMul y t) 2)) z
theorem sum_frac {x y z t : Iv} {a b c P Q : Int} (h : ivRight (qSum x y z t) = true) (hQ : 0 < Q) (ha : x.lo ≤ a ∧ a ≤ x.hi) (hb : y.lo ≤ b ∧ b ≤ y.hi) (hc : z.lo ≤ c ∧ c ≤ z.hi)
    (hp : t.lo * Q ≤ P ∧ P ≤ t.hi * Q) :
    (qSum x y z t).lo * (65536 * (65536 * (Q * Q))) ≤ a * (P * P) + 2 * (b * P) * (65536 * Q) + c * (65536 * (65536 * (Q * Q))) ∧
    a * (P * P) + 2 * (b * P) * (65536 * Q) + c * (65536 * (65536 * (Q * Q))) ≤ (qSum x y z t).hi * (65536 * (65536 * (Q * Q))) := by
  unfold qSum at h ⊢
  obtain ⟨⟨r1, r2⟩, e1, e2⟩ := add_ends h
  obtain ⟨⟨r3, r4⟩, e3, e4⟩ := add_ends r1
  obtain ⟨r5, e5, e6⟩ := two_ends r4
  rw [e1, e2, e3, e4, e5, e6]
  have hQQ : 0 ≤ Q * Q := sq_nonneg' Q
  have f1 := mul_frac (Q := 65536 * (Q * Q)) (P := P * P) r3 (by omega) ha (by rw [← Int.mul_assoc (ivSqr t).lo, ← Int.mul_assoc (ivSqr t).hi]; exact sqr_frac (rights_mul r3).2 hQ hp)
  have f2 := mul_frac r5 (by omega) hb hp
  have g1 := Int.mul_le_mul_of_nonneg_right f2.1 (show 0 ≤ 65536 * Q by omega)
  have g2 := Int.mul_le_mul_of_nonneg_right f2.2 (show 0 ≤ 65536 * Q by omega)
  have g3 := Int.mul_le_mul_of_nonneg_right hc.1 (show 0 ≤ 65536 * (65536 * (Q * Q)) by omega)
  have g4 := Int.mul_le_mul_of_nonneg_right hc.2 (show 0 ≤ 65536 * (65536 * (Q * Q)) by omega)
  have k : ∀ n : Int, n * 65536 * Q * (65536 * Q) = n * (65536 * (65536 * (Q * Q))) := fun n => by grind
  have k2 : ∀ n : Int, n * 65536 * (65536 * (Q * Q)) = n * (65536 * (65536 * (Q * Q))) := fun n => by grind
  rw [k] at g1 g2
  rw [k2] at f1
  rw [k2] at f1
  generalize 65536 * (65536 * (Q * Q)) = K at *
  rw [Int.add_mul, Int.add_mul, Int.add_mul, Int.add_mul, Int.mul_assoc 2, Int.mul_assoc 2, Int.mul_assoc 2]
  omega
theorem sum_id (a b c q : Int) : a * (c * 65536 * (c * 65536)) + 2 * (b * (c * 65536)) * (65536 * (q - b)) + c * (65536 * (65536 * ((q - b) * (q - b)))) = 65536 * (65536 * (c * (q * q - (b * b - a * c)))) := by grind
/-- What the number beneath the root has. -/
theorem det_has {x y z : Iv} {a b c : Int} (h : ivRight (qDet x y z) = true) (ha : x.lo ≤ a ∧ a ≤ x.hi) (hb : y.lo ≤ b ∧ b ≤ y.hi) (hc : z.lo ≤ c ∧ c ≤ z.hi) :
    (qDet x y z).lo * 65536 ≤ b * b - a * c ∧ b * b - a * c ≤ (qDet x y z).hi * 65536 := by
  obtain ⟨⟨r1, r2⟩, e1, e2⟩ := sub_ends (x := ivSqr y) (y := ivMul x z) h
  unfold qDet
  rw [e1, e2]
  have f1 := mul_frac (Q := 1) (P := c) r2 (by omega) ha (by omega)
  have f2 := sqr_frac (Q := 1) (P := b) r1 (by omega) (by omega)
  omega
/-- At a number q of the root's interval the sum's value lies in the sum. -/
theorem near_at {x y z : Iv} {a b c q : Int} (h : ivRight (qRoot x y z) = true) (hs : ivRight (qSum x y z (qRoot x y z)) = true) (ha : x.lo ≤ a ∧ a ≤ x.hi) (hb : y.lo ≤ b ∧ b ≤ y.hi) (hc : z.lo ≤ c ∧ c ≤ z.hi)
    (hq : (ivRoot (qDet x y z)).lo ≤ q ∧ q ≤ (ivRoot (qDet x y z)).hi) :
    ∃ K : Int, 0 < K ∧ (qSum x y z (qRoot x y z)).lo * K ≤ 65536 * (65536 * (c * (q * q - (b * b - a * c)))) ∧ 65536 * (65536 * (c * (q * q - (b * b - a * c)))) ≤ (qSum x y z (qRoot x y z)).hi * K := by
  obtain ⟨hb', h0, -⟩ := div_right (x := z) (y := ivSub (ivRoot (qDet x y z)) y) h
  obtain ⟨⟨r1, r2⟩, e1, e2⟩ := sub_ends (both_iff.1 hb').2
  have d := div_encloses (x := z) (y := ivSub (ivRoot (qDet x y z)) y) (p := c) (q := q - b) h hc (by omega)
  rw [← sum_id]
  have pos : ∀ Q : Int, 0 < Q → 0 < 65536 * (65536 * (Q * Q)) := fun Q hQ => by
    have := Int.mul_pos hQ hQ
    omega
  rcases d with ⟨hg, d1, d2⟩ | ⟨hg, d1, d2⟩
  · exact ⟨_, pos _ hg, sum_frac (P := c * 65536) (Q := q - b) hs hg ha hb hc ⟨d1, d2⟩⟩
  · have f := sum_frac (P := -(c * 65536)) (Q := -(q - b)) hs (by omega) ha hb hc (by rw [Int.mul_neg, Int.mul_neg]; exact ⟨by show -((qRoot x y z).lo * (q - b)) ≤ _; unfold qRoot; omega, by show _ ≤ -((qRoot x y z).hi * (q - b)); unfold qRoot; omega⟩)
    have p := pos (-(q - b)) (by omega)
    simp only [Int.mul_neg, Int.neg_mul, Int.neg_neg] at f p
    exact ⟨_, p, f⟩
/-- At the root that is told the sum of squares has 0. -/
theorem near_zero {x y z : Iv} (h : qIs x y z = 1) (hs : ivRight (qSum x y z (qNear x y z)) = true) : ivHas (qSum x y z (qNear x y z)) 0 = true := by
  rcases quad_cases x y z with ⟨-, n, hr, hd, h0⟩ | ⟨e, -⟩ | ⟨e, -⟩
  · rw [n] at hs ⊢
    obtain ⟨hb', -, -⟩ := div_right (x := z) (y := ivSub (ivRoot (qDet x y z)) y) hr
    obtain ⟨r0, r1⟩ := both_iff.1 hb'
    obtain ⟨⟨r2, r3⟩, -, -⟩ := sub_ends r1
    obtain ⟨-, r4, -⟩ := sub_ends (x := ivSqr y) (y := ivMul x z) hd
    have rx : ivRight x = true := by
      obtain ⟨⟨-, r5⟩, -⟩ := sub_ends (x := ivSqr y) (y := ivMul x z) hd
      exact (rights_mul r5).1
    have bx := right_bd rx
    have by' := right_bd r3
    have bz := right_bd r0
    have e := det_has (a := x.lo) (b := y.lo) (c := z.lo) hd (by omega) (by omega) (by omega)
    obtain ⟨q1, q2, q3, q4, q5⟩ := root_ends r2
    obtain ⟨K, k0, k1, k2⟩ := near_at (a := x.lo) (b := y.lo) (c := z.lo) (q := (ivRoot (qDet x y z)).lo) hr hs (by omega) (by omega) (by omega) (by omega)
    obtain ⟨M, m0, m1, m2⟩ := near_at (a := x.lo) (b := y.lo) (c := z.lo) (q := (ivRoot (qDet x y z)).hi) hr hs (by omega) (by omega) (by omega) (by omega)
    generalize hu : (ivRoot (qDet x y z)).lo * (ivRoot (qDet x y z)).lo - (y.lo * y.lo - x.lo * z.lo) = u at *
    generalize hv : (ivRoot (qDet x y z)).hi * (ivRoot (qDet x y z)).hi - (y.lo * y.lo - x.lo * z.lo) = v at *
    have u0 : u ≤ 0 := by omega
    have v0 : 0 ≤ v := by omega
    have lo_of : ∀ T s : Int, 0 < T → s * T ≤ 0 → s ≤ 0 := fun T s hT hh => by
      by_cases hp : s ≤ 0
      · exact hp
      · have := Int.mul_pos (show 0 < s by omega) hT
        omega
    have hi_of : ∀ T s : Int, 0 < T → 0 ≤ s * T → 0 ≤ s := fun T s hT hh => by
      by_cases hp : 0 ≤ s
      · exact hp
      · have := Int.mul_pos (show 0 < -s by omega) hT
        rw [Int.neg_mul] at this
        omega
    unfold ivHas
    rw [hs]
    simp only [Bool.true_and, Bool.and_eq_true, decide_eq_true_eq]
    by_cases hc : 0 ≤ z.lo
    · have a1 := Int.mul_nonneg hc (show 0 ≤ -u by omega)
      rw [Int.mul_neg] at a1
      have a2 := Int.mul_nonneg hc v0
      exact ⟨lo_of K _ k0 (by omega), hi_of M _ m0 (by omega)⟩
    · have a1 := Int.mul_nonneg (show 0 ≤ -z.lo by omega) (show 0 ≤ -u by omega)
      rw [Int.neg_mul_neg] at a1
      have a2 := Int.mul_nonneg (show 0 ≤ -z.lo by omega) v0
      rw [Int.neg_mul] at a2
      exact ⟨lo_of M _ m0 (by omega), hi_of K _ k0 (by omega)⟩
  · omega
  · omega

/-! Roots that are whole. -/
theorem sq_succ (r : Int) : (r + 1) * (r + 1) = r * r + 2 * r + 1 := by grind
theorem root_has {d : Iv} {r : Int} (h : ivRight (ivRoot d) = true) (h0 : 0 ≤ r) (hr : d.lo * 65536 ≤ r * r ∧ r * r ≤ d.hi * 65536) : (ivRoot d).lo ≤ r ∧ r ≤ (ivRoot d).hi := by
  obtain ⟨q1, q2, q3, q4, q5⟩ := root_ends h
  constructor
  · by_cases c : (ivRoot d).lo ≤ r
    · exact c
    · have := sq_le_sq (x := r + 1) (y := (ivRoot d).lo) (by omega) (by omega)
      rw [sq_succ] at this
      omega
  · by_cases c : r ≤ (ivRoot d).hi
    · exact c
    · have := sq_le_sq (x := (ivRoot d).hi + 1) (y := r) (by omega) (by omega)
      rw [sq_succ] at this
      omega
/-- Of numbers whose root is whole: what is told is not No, and where it is Yes c by r - b lies in it. -/
theorem near_whole {x y z : Iv} {a b c r p : Int} (ha : x.lo ≤ a ∧ a ≤ x.hi) (hb : y.lo ≤ b ∧ b ≤ y.hi) (hc : z.lo ≤ c ∧ c ≤ z.hi) (h0 : 0 ≤ r) (hr : r * r = b * b - a * c) (hp : c * 65536 = p * (r - b)) :
    qIs x y z ≠ 2 ∧ (qIs x y z = 1 → ivHas (qNear x y z) p = true) := by
  rcases quad_cases x y z with ⟨e, n, hr', hd, h0'⟩ | ⟨e, n, hd, h0'⟩ | ⟨e, n⟩
  · refine ⟨by omega, fun _ => ?_⟩
    rw [n]
    have e := det_has (a := a) (b := b) (c := c) hd ha hb hc
    obtain ⟨hb', -, -⟩ := div_right (x := z) (y := ivSub (ivRoot (qDet x y z)) y) hr'
    obtain ⟨r0, r1⟩ := both_iff.1 hb'
    obtain ⟨⟨r2, r3⟩, e1, e2⟩ := sub_ends r1
    have hq := root_has (r := r) r2 h0 (by omega)
    have d := div_encloses (x := z) (y := ivSub (ivRoot (qDet x y z)) y) (p := c) (q := r - b) hr' hc (by omega)
    rw [hp] at d
    change (0 < r - b ∧ (qRoot x y z).lo * (r - b) ≤ p * (r - b) ∧ p * (r - b) ≤ (qRoot x y z).hi * (r - b)) ∨ (r - b < 0 ∧ p * (r - b) ≤ (qRoot x y z).lo * (r - b) ∧ (qRoot x y z).hi * (r - b) ≤ p * (r - b)) at d
    unfold ivHas
    rw [hr']
    simp only [Bool.true_and, Bool.and_eq_true, decide_eq_true_eq]
    rcases d with ⟨hg, d1, d2⟩ | ⟨hg, d1, d2⟩
    · exact ⟨Int.le_of_mul_le_mul_right d1 hg, Int.le_of_mul_le_mul_right d2 hg⟩
    · rw [← Int.neg_le_neg_iff, ← Int.mul_neg, ← Int.mul_neg] at d1 d2
      exact ⟨Int.le_of_mul_le_mul_right d1 (by omega), Int.le_of_mul_le_mul_right d2 (by omega)⟩
  · have e := det_has (a := a) (b := b) (c := c) hd ha hb hc
    have := sq_nonneg' r
    omega
  · exact ⟨by omega, fun h => by omega⟩

end Go.Proofs.Ytgkkfmjlgmoefaa

