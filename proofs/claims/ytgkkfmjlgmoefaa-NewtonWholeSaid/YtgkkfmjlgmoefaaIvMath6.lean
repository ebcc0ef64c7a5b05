/-
  Intervals of steps, in plain numbers: what is turned about 0; less in less, one behind the other; squares and quotients of one length.
-/
import Derived.Test.YtgkkfmjlgmoefaaIvMath5
namespace Go.Proofs.Ytgkkfmjlgmoefaa
set_option linter.unusedVariables false

theorem rights_add {a b : Iv} (h : ivRight (ivAdd a b) = true) : ivRight a = true ∧ ivRight b = true := by
  unfold ivAdd at h
  by_cases hb : ivBoth a b = true
  · exact both_iff.1 hb
  · rw [if_neg hb] at h
    simp [right_none] at h
theorem rights_mul {a b : Iv} (h : ivRight (ivMul a b) = true) : ivRight a = true ∧ ivRight b = true := by
  unfold ivMul at h
  by_cases hb : ivBoth a b = true
  · exact both_iff.1 hb
  · rw [if_neg hb] at h
    simp [right_none] at h
theorem rights_sqr {a : Iv} (h : ivRight (ivSqr a) = true) : ivRight a = true := by
  unfold ivSqr at h
  by_cases hb : ivRight a = true
  · exact hb
  · rw [if_neg hb] at h
    simp [right_none] at h
theorem rights_root {a : Iv} (h : ivRight (ivRoot a) = true) : ivRight a = true := by
  unfold ivRoot at h
  by_cases hb : ivRight a = true
  · exact hb
  · simp [hb, right_none] at h
theorem lessPart {a b : Iv} (h : ivLess a b = true) (hb : ivRight b = true) : Part a b := by
  unfold ivLess at h
  rw [hb] at h
  have h1 : ivInside a b = true := by simpa using h
  obtain ⟨h2, h3, h4, h5⟩ := inside_iff.1 h1
  exact ⟨h2, h3, h4, h5⟩
theorem partLess {a b : Iv} (h : Part a b) : ivLess a b = true := by
  unfold ivLess
  rw [inside_iff.2 ⟨h.1, h.2.1, h.2.2.1, h.2.2.2⟩, Bool.or_true]
theorem lessBad {a b : Iv} (h : ivRight b = false) : ivLess a b = true := by
  unfold ivLess
  rw [h]
  rfl
theorem lessAdd {p q x y : Iv} (h : ivLess p x = true) (k : ivLess q y = true) : ivLess (ivAdd p q) (ivAdd x y) = true := by
  cases hr : ivRight (ivAdd x y)
  · exact lessBad hr
  · have h1 := rights_add hr
    exact less_add (lessPart h h1.1) (lessPart k h1.2)
theorem lessMul {p q x y : Iv} (h : ivLess p x = true) (k : ivLess q y = true) : ivLess (ivMul p q) (ivMul x y) = true := by
  cases hr : ivRight (ivMul x y)
  · exact lessBad hr
  · have h1 := rights_mul hr
    exact less_mul (lessPart h h1.1) (lessPart k h1.2)
theorem lessRoot {p x : Iv} (h : ivLess p x = true) : ivLess (ivRoot p) (ivRoot x) = true := by
  cases hr : ivRight (ivRoot x)
  · exact lessBad hr
  · exact less_root (lessPart h (rights_root hr))
theorem lessDiv {p q x y : Iv} (h : ivLess p x = true) (k : ivLess q y = true) : ivLess (ivDiv p q) (ivDiv x y) = true := by
  cases hr : ivRight (ivDiv x y)
  · exact lessBad hr
  · have h1 := both_iff.1 (div_right hr).1
    exact less_div (lessPart h h1.1) (lessPart k h1.2)

/-! About 0. -/
theorem neg_bad {z : Iv} (h : ivRight z = false) : ivNeg z = ivNone := by
  unfold ivNeg
  rw [h]
  rfl
theorem right_neg {z : Iv} (h : ivRight z = true) : ivRight (ivNeg z) = true := by
  have b := right_bd h
  rw [neg_form h]
  exact right_of.2 (by omega)
theorem neg_neg_right {z : Iv} (h : ivRight z = true) : ivNeg (ivNeg z) = z := by
  have b := right_bd h
  have e := (right_iff.1 h).1
  rw [neg_form h, neg_form (right_of.2 (by omega))]
  obtain ⟨lo, hi, no⟩ := z
  dsimp only at e ⊢
  rw [e, Int.neg_neg, Int.neg_neg]
theorem neg_neg_good {z : Iv} (h : Good z) : ivNeg (ivNeg z) = z := by
  rcases h with h | ⟨h1, h2⟩
  · rw [h]; rfl
  · exact neg_neg_right h2
theorem add_bad {a b : Iv} (h : ivRight a = false ∨ ivRight b = false) : ivAdd a b = ivNone := by
  unfold ivAdd ivBoth
  rcases h with h | h <;> simp [h]
theorem add_neg (a b : Iv) : ivAdd (ivNeg a) (ivNeg b) = ivNeg (ivAdd a b) := by
  cases ha : ivRight a
  · rw [neg_bad ha, add_bad (.inl rfl), add_bad (.inl ha)]; rfl
  cases hb : ivRight b
  · rw [neg_bad hb, add_bad (.inr rfl), add_bad (.inr hb)]; rfl
  unfold ivAdd
  rw [if_pos (both_iff.2 ⟨right_neg ha, right_neg hb⟩), if_pos (both_iff.2 ⟨ha, hb⟩), neg_of, neg_form ha, neg_form hb]
  congr 1 <;> dsimp only <;> omega
theorem mul_neg_neg {a b : Iv} (ha : ivRight a = true) (hb : ivRight b = true) : ivMul (ivNeg a) (ivNeg b) = ivMul a b := by
  rw [neg_mul' ha (right_neg hb), mul_comm', neg_mul' hb ha, mul_comm', neg_neg_good (good_mul _ _)]
theorem sqr_neg {a : Iv} (h : ivRight a = true) : ivSqr (ivNeg a) = ivSqr a := by
  have b := right_bd h
  have hn := right_neg h
  unfold ivSqr
  rw [if_pos h, if_pos hn, has_zero h, has_zero hn, neg_form h]
  dsimp only
  rw [Int.neg_mul_neg, Int.neg_mul_neg, Int.max_comm, Int.min_comm]
  have e : decide (-a.hi ≤ 0 ∧ 0 ≤ -a.lo) = decide (a.lo ≤ 0 ∧ 0 ≤ a.hi) := by
    congr 1
    exact propext ⟨fun h => by omega, fun h => by omega⟩
  rw [e]
theorem qF_neg (x y : Int) : qF (-x) y = -(qC x y) := by
  unfold qF qC
  rw [Int.neg_mul, Int.neg_neg]
theorem qC_neg (x y : Int) : qC (-x) y = -(qF x y) := by
  unfold qF qC
  rw [Int.neg_mul, Int.neg_neg]
theorem div_bad {x y : Iv} (h : ¬ (ivBoth x y = true ∧ Off y ∧
    ((-1073741824 ≤ qF x.lo y.lo ∧ qC x.lo y.lo ≤ 1073741824) ∧ (-1073741824 ≤ qF x.lo y.hi ∧ qC x.lo y.hi ≤ 1073741824) ∧ (-1073741824 ≤ qF x.hi y.lo ∧ qC x.hi y.lo ≤ 1073741824) ∧ (-1073741824 ≤ qF x.hi y.hi ∧ qC x.hi y.hi ≤ 1073741824)))) :
    ivDiv x y = ivNone := by
  rcases good_div x y with e | ⟨-, e⟩
  · exact e
  · exact absurd (div_right e) h
theorem div_neg {x y : Iv} (hx : ivRight x = true) : ivDiv (ivNeg x) y = ivNeg (ivDiv x y) := by
  have hn := right_neg hx
  have el : (ivNeg x).lo = -x.hi := by rw [neg_form hx]
  have eh : (ivNeg x).hi = -x.lo := by rw [neg_form hx]
  by_cases h : ivBoth x y = true ∧ Off y ∧
    ((-1073741824 ≤ qF x.lo y.lo ∧ qC x.lo y.lo ≤ 1073741824) ∧ (-1073741824 ≤ qF x.lo y.hi ∧ qC x.lo y.hi ≤ 1073741824) ∧ (-1073741824 ≤ qF x.hi y.lo ∧ qC x.hi y.lo ≤ 1073741824) ∧ (-1073741824 ≤ qF x.hi y.hi ∧ qC x.hi y.hi ≤ 1073741824))
  · obtain ⟨h1, h2, h3⟩ := h
    rw [div_yes h1 h2 h3, neg_of, div_yes (both_iff.2 ⟨hn, (both_iff.1 h1).2⟩) h2 (by rw [el, eh, qF_neg, qC_neg, qF_neg, qC_neg, qF_neg, qC_neg, qF_neg, qC_neg]; omega)]
    rw [el, eh, qF_neg, qC_neg, qF_neg, qC_neg, qF_neg, qC_neg, qF_neg, qC_neg]
    unfold min4 max4
    congr 1 <;> omega
  · rw [div_bad h, div_bad]
    · rfl
    · intro ⟨h1, h2, h3⟩
      rw [el, eh, qF_neg, qC_neg, qF_neg, qC_neg, qF_neg, qC_neg, qF_neg, qC_neg] at h3
      exact h ⟨both_iff.2 ⟨hx, (both_iff.1 h1).2⟩, h2, by omega⟩

/-! Times nothing, times one. -/
theorem fdiv_steps (n : Int) : (n * 65536).fdiv 65536 = n := by rw [fdiv_one]; omega
theorem point_form {n : Int} (h : -1073741824 ≤ n ∧ n ≤ 1073741824) : ivPoint n = ⟨n, n, false⟩ := of_yes (by omega)
theorem mul_zero {a : Iv} (h : ivRight a = true) : ivMul a ⟨0, 0, false⟩ = ⟨0, 0, false⟩ := by
  unfold ivMul
  rw [if_pos (both_iff.2 ⟨h, by decide⟩)]
  simp only [Int.mul_zero]
  rfl
theorem right_eta {a : Iv} (h : ivRight a = true) : (⟨a.lo, a.hi, false⟩ : Iv) = a := by
  have e := (right_iff.1 h).1
  obtain ⟨lo, hi, no⟩ := a
  dsimp only at e ⊢
  rw [e]
theorem mul_one {a : Iv} (h : ivRight a = true) : ivMul a ⟨65536, 65536, false⟩ = a := by
  have b := right_bd h
  unfold ivMul ivOut
  rw [if_pos (both_iff.2 ⟨h, by decide⟩)]
  dsimp only
  rw [show min4 (a.lo * 65536) (a.lo * 65536) (a.hi * 65536) (a.hi * 65536) = a.lo * 65536 by unfold min4; omega,
    show max4 (a.lo * 65536) (a.lo * 65536) (a.hi * 65536) (a.hi * 65536) = a.hi * 65536 by unfold max4; omega,
    ← Int.neg_mul, fdiv_steps, fdiv_steps, Int.neg_neg, of_yes (by omega), right_eta h]
theorem mul_minus {a : Iv} (h : ivRight a = true) : ivMul a ⟨-65536, -65536, false⟩ = ivNeg a := by
  have e : (⟨-65536, -65536, false⟩ : Iv) = ivNeg ⟨65536, 65536, false⟩ := rfl
  rw [e, mul_comm', neg_mul' (by decide) h, mul_comm', mul_one h]
theorem add_zero {a : Iv} (h : ivRight a = true) : ivAdd a ⟨0, 0, false⟩ = a := by
  have b := right_bd h
  unfold ivAdd
  rw [if_pos (both_iff.2 ⟨h, by decide⟩), of_yes (by dsimp only; omega), Int.add_zero, Int.add_zero, right_eta h]

/-! Squares, where they are. -/
theorem sqr_ends {u : Iv} (h : ivRight (ivSqr u) = true) :
    (u.lo ≤ 0 ∧ 0 ≤ u.hi → (ivSqr u).lo ≤ 0) ∧ (0 < u.lo → (ivSqr u).lo * 65536 ≤ u.lo * u.lo) ∧ (u.hi < 0 → (ivSqr u).lo * 65536 ≤ u.hi * u.hi) ∧
    u.lo * u.lo ≤ (ivSqr u).hi * 65536 ∧ u.hi * u.hi ≤ (ivSqr u).hi * 65536 ∧ (ivSqr u).lo ≤ (ivSqr u).hi := by
  have hu := rights_sqr h
  have b := right_bd hu
  unfold ivSqr ivOut at h ⊢
  rw [if_pos hu, has_zero hu] at h ⊢
  by_cases h0 : u.lo ≤ 0 ∧ 0 ≤ u.hi
  · rw [if_pos (c := decide (u.lo ≤ 0 ∧ 0 ≤ u.hi) = true) (by simpa using h0)] at h ⊢
    have hr := right_of_of.1 h
    rw [of_yes hr]
    simp only [fdiv_one] at hr ⊢
    omega
  · rw [if_neg (c := decide (u.lo ≤ 0 ∧ 0 ≤ u.hi) = true) (by simpa using h0)] at h ⊢
    have hr := right_of_of.1 h
    rw [of_yes hr]
    simp only [fdiv_one] at hr ⊢
    omega
theorem sq_le_sq {x y : Int} (hx : 0 ≤ x) (h : x ≤ y) : x * x ≤ y * y := Int.mul_le_mul h h hx (by omega)
/-- A number by a length that isn't whole: its square, of squares. -/
theorem unit_part {u : Iv} {P rl rh n : Int} (hs : ivRight (ivSqr u) = true) (h0 : 0 < rl) (hr : rl ≤ rh) (hl : rl * rl ≤ n) (hh : n ≤ rh * rh)
    (h1 : u.lo * rl ≤ P) (h2 : P ≤ u.hi * rl) (h3 : u.lo * rh ≤ P) (h4 : P ≤ u.hi * rh) : (ivSqr u).lo * 65536 * n ≤ P * P ∧ P * P ≤ (ivSqr u).hi * 65536 * n := by
  obtain ⟨s1, s2, s3, s4, s5, s6⟩ := sqr_ends hs
  have hn : 0 ≤ n := by have := Int.mul_nonneg (show 0 ≤ rl by omega) (show 0 ≤ rl by omega); omega
  have hP : 0 ≤ P * P := by
    by_cases hp : 0 ≤ P
    · exact Int.mul_nonneg hp hp
    · have := Int.mul_nonneg (show 0 ≤ -P by omega) (show 0 ≤ -P by omega)
      rwa [Int.neg_mul_neg] at this
  have e4 : ∀ x y : Int, x * y * (x * y) = x * x * (y * y) := fun x y => by rw [Int.mul_assoc, Int.mul_left_comm y x y, ← Int.mul_assoc]
  constructor
  · by_cases c1 : 0 < u.lo
    · have a1 := sq_le_sq (Int.mul_nonneg (show 0 ≤ u.lo by omega) (show 0 ≤ rh by omega)) h3
      rw [e4] at a1
      have a2 := Int.mul_le_mul_of_nonneg_left hh (Int.mul_nonneg (show 0 ≤ u.lo by omega) (show 0 ≤ u.lo by omega))
      have a3 := Int.mul_le_mul_of_nonneg_right (s2 c1) hn
      omega
    · by_cases c2 : u.hi < 0
      · have a0 := Int.mul_nonneg (show 0 ≤ -u.hi by omega) (show 0 ≤ rh by omega)
        have a1 := sq_le_sq (x := -u.hi * rh) (y := -P) a0 (by rw [Int.neg_mul]; omega)
        rw [e4, Int.neg_mul_neg, Int.neg_mul_neg] at a1
        have a2 := Int.mul_le_mul_of_nonneg_left hh (show 0 ≤ u.hi * u.hi by have := Int.mul_nonneg (show 0 ≤ -u.hi by omega) (show 0 ≤ -u.hi by omega); rwa [Int.neg_mul_neg] at this)
        have a3 := Int.mul_le_mul_of_nonneg_right (s3 c2) hn
        omega
      · have a1 := s1 (by omega)
        have a3 := Int.mul_le_mul_of_nonneg_right (show (ivSqr u).lo * 65536 ≤ 0 by omega) hn
        rw [Int.zero_mul] at a3
        omega
  · by_cases c1 : 0 ≤ P
    · have a1 := sq_le_sq c1 h2
      rw [e4] at a1
      have a0 : 0 ≤ u.hi * u.hi := by
        by_cases hp : 0 ≤ u.hi
        · exact Int.mul_nonneg hp hp
        · have := Int.mul_nonneg (show 0 ≤ -u.hi by omega) (show 0 ≤ -u.hi by omega)
          rwa [Int.neg_mul_neg] at this
      have a2 := Int.mul_le_mul_of_nonneg_left hl a0
      have a3 := Int.mul_le_mul_of_nonneg_right s5 hn
      omega
    · have a1 := sq_le_sq (x := -P) (y := -u.lo * rl) (by omega) (by rw [Int.neg_mul]; omega)
      rw [e4, Int.neg_mul_neg, Int.neg_mul_neg] at a1
      have a0 : 0 ≤ u.lo * u.lo := by
        by_cases hp : 0 ≤ u.lo
        · exact Int.mul_nonneg hp hp
        · have := Int.mul_nonneg (show 0 ≤ -u.lo by omega) (show 0 ≤ -u.lo by omega)
          rwa [Int.neg_mul_neg] at this
      have a2 := Int.mul_le_mul_of_nonneg_left hl a0
      have a3 := Int.mul_le_mul_of_nonneg_right s4 hn
      omega

/-! Roots, where they are. -/
theorem root_ends {x : Iv} (h : ivRight (ivRoot x) = true) : 0 ≤ x.lo ∧ 0 ≤ (ivRoot x).lo ∧ (ivRoot x).lo ≤ (ivRoot x).hi ∧ (ivRoot x).lo * (ivRoot x).lo ≤ x.lo * 65536 ∧ x.hi * 65536 ≤ (ivRoot x).hi * (ivRoot x).hi := by
  have hx := rights_root h
  have b := right_bd hx
  have h0 : 0 ≤ x.lo := by
    by_cases h0 : x.lo < 0
    · rw [root_none h0] at h; cases h
    · omega
  obtain ⟨r1, r2, r3⟩ := rootN_yes (n := x.lo) ⟨h0, by omega⟩ false
  obtain ⟨s1, s2, s3⟩ := rootN_yes (n := x.hi) ⟨by omega, by omega⟩ true
  have u1 := up_ge (x.lo * 65536)
  have u2 := up_ge (x.hi * 65536)
  have f1 := flRoot_bd (x.lo * 65536) (by omega) (by omega)
  have f2 := flRoot_bd (x.hi * 65536) (by omega) (by omega)
  have m1 := flRoot_mono (n := x.lo * 65536) (m := x.hi * 65536) (by omega) (by omega) (by omega)
  have hg : x.hi * 65536 ≤ upRoot (x.hi * 65536) true * upRoot (x.hi * 65536) true := by
    unfold upRoot
    cases hc : (flRoot (x.hi * 65536) * flRoot (x.hi * 65536) == x.hi * 65536)
    · simp only [Bool.true_and, Bool.not_false, if_true]; omega
    · have := eq_of_beq hc
      simp only [Bool.true_and, Bool.not_true, Bool.false_eq_true, if_false]; omega
  have e : ivRoot x = ⟨upRoot (x.lo * 65536) false, upRoot (x.hi * 65536) true, false⟩ := by
    unfold ivRoot
    rw [hx, r1, s1]
    simp only [Bool.and_true, if_true]
    exact of_yes (by omega)
  rw [e]
  dsimp only
  refine ⟨h0, r2, by omega, ?_, hg⟩
  rw [u1.2.2]
  omega
theorem sqr_of_lo {a : Iv} (h : ivRight (ivSqr a) = true) : (ivSqr a).lo * 65536 ≤ a.lo * a.lo ∧ a.lo * a.lo ≤ (ivSqr a).hi * 65536 := by
  obtain ⟨s1, s2, s3, s4, s5, s6⟩ := sqr_ends h
  have b := right_bd (rights_sqr h)
  refine ⟨?_, s4⟩
  have q : 0 ≤ a.lo * a.lo := by
    by_cases hp : 0 ≤ a.lo
    · exact Int.mul_nonneg hp hp
    · have := Int.mul_nonneg (show 0 ≤ -a.lo by omega) (show 0 ≤ -a.lo by omega)
      rwa [Int.neg_mul_neg] at this
  by_cases c1 : 0 < a.lo
  · exact s2 c1
  · by_cases c2 : a.hi < 0
    · have := s3 c2
      have h2 := sq_le_sq (x := -a.hi) (y := -a.lo) (by omega) (by omega)
      rw [Int.neg_mul_neg, Int.neg_mul_neg] at h2
      omega
    · have := s1 (by omega)
      omega

end Go.Proofs.Ytgkkfmjlgmoefaa

