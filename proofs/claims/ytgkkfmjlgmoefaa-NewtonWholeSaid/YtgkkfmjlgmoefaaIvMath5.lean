/-
  What the statements of chapter 2 come to, in plain numbers.
-/
import Derived.Test.YtgkkfmjlgmoefaaIvMath4
namespace Go.Proofs.Ytgkkfmjlgmoefaa
set_option linter.unusedVariables false

/-- A tame interval is right, and small. -/
def Small (x : Iv) : Prop := ivRight x = true ∧ -1310720 ≤ x.lo ∧ x.hi ≤ 1313720
theorem tame_small (n w : Int) : Small (hTame n w) := by
  have h1 := Int.emod_nonneg w (show (3000 : Int) ≠ 0 by omega)
  have h2 := Int.emod_lt_of_pos w (show (0 : Int) < 3000 by omega)
  refine ⟨hWide_right h1, ?_⟩
  unfold hTame hWide within
  dsimp only
  omega
theorem small_bd {x : Iv} (h : Small x) : -1310720 ≤ x.lo ∧ x.lo ≤ x.hi ∧ x.hi ≤ 1313720 := ⟨h.2.1, (right_bd h.1).2.2, h.2.2⟩
theorem back_add {x y : Iv} (h : Small x) (k : Small y) : ivInside x (ivSub (ivAdd x y) y) = true := by
  have a := small_bd h
  have b := small_bd k
  have e : ivAdd x y = ⟨x.lo + y.lo, x.hi + y.hi, false⟩ := by
    unfold ivAdd
    rw [if_pos (both_iff.2 ⟨h.1, k.1⟩), of_yes (by omega)]
  rw [sub_eq, e, if_pos (both_iff.2 ⟨right_of.2 (by omega), k.1⟩), of_yes (by dsimp only; omega)]
  exact inside_iff.2 ⟨h.1, right_of.2 (by dsimp only; omega), by dsimp only; omega⟩
/-- The root of a small interval. -/
theorem root_form {x : Iv} (h : Small x) (h0 : 0 ≤ x.lo) : ∃ r s : Int, ivRoot x = ⟨r, s, false⟩ ∧ 0 ≤ r ∧ r ≤ s ∧ s ≤ 300001 ∧ r * r ≤ x.lo * 65536 ∧ x.hi * 65536 ≤ s * s := by
  have a := small_bd h
  have ⟨f1, f2, f3⟩ := flRoot_bd (x.lo * 65536) (by omega) (by omega)
  have ⟨g1, g2, g3⟩ := flRoot_bd (x.hi * 65536) (by omega) (by omega)
  have g4 := flRoot_le (x.hi * 65536) 300000 (by omega) (by omega) (by omega) (by omega)
  have m := flRoot_mono (n := x.lo * 65536) (m := x.hi * 65536) (by omega) (by omega) (by omega)
  have u1 := up_ge (x.lo * 65536)
  have u2 := up_ge (x.hi * 65536)
  have hs : x.hi * 65536 ≤ upRoot (x.hi * 65536) true * upRoot (x.hi * 65536) true := by
    by_cases hc : flRoot (x.hi * 65536) * flRoot (x.hi * 65536) = x.hi * 65536
    · have e : upRoot (x.hi * 65536) true = flRoot (x.hi * 65536) := by simp [upRoot, hc]
      rw [e]; omega
    · have e : upRoot (x.hi * 65536) true = flRoot (x.hi * 65536) + 1 := by simp [upRoot, hc]
      rw [e]; omega
  refine ⟨flRoot (x.lo * 65536), upRoot (x.hi * 65536) true, ?_, f1, by omega, by omega, f2, hs⟩
  have e : (ivRight x && !decide (x.lo < 0)) = true := by rw [h.1]; simp; omega
  rw [root_eq, e, (rootN_yes (n := x.lo) (by omega) false).1, (rootN_yes (n := x.hi) (by omega) true).1]
  show ivOf (upRoot (x.lo * 65536) false) (upRoot (x.hi * 65536) true) = _
  rw [u1.2.2, of_yes (by omega)]
theorem root_right {x : Iv} (h : Small x) : ivRight (ivRoot x) = decide (0 ≤ x.lo) := by
  have a := small_bd h
  by_cases h0 : 0 ≤ x.lo
  · obtain ⟨r, s, e, h1, h2, h3, h4⟩ := root_form h h0
    rw [e, right_of.2 (by omega)]
    simp [h0]
  · have e : (ivRight x && !decide (x.lo < 0)) = false := by rw [h.1]; simp; omega
    rw [root_eq, e]
    simp [right_none, h0]
theorem back_root {x : Iv} (h : Small x) (h1 : ivRight (ivRoot x) = true) : ivInside x (ivSqr (ivRoot x)) = true := by
  have a := small_bd h
  rw [root_right h] at h1
  obtain ⟨r, s, e, h2, h3, h4, h5, h6⟩ := root_form h (by simpa using h1)
  have hr : ivRight (⟨r, s, false⟩ : Iv) = true := right_of.2 (by omega)
  have q1 := sq_le h2 h3
  have q2 := sq_le (show 0 ≤ s by omega) h4
  have q3 : 0 ≤ r * r := Int.mul_nonneg h2 h2
  rw [e]
  unfold ivSqr
  rw [if_pos hr, has_zero hr]
  dsimp only
  split
  · unfold ivOut
    rw [fdiv_one, fdiv_one, of_yes (by omega)]
    exact inside_iff.2 ⟨h.1, right_of.2 (by omega), by dsimp only; omega⟩
  · unfold ivOut
    rw [fdiv_one, fdiv_one, of_yes (by omega)]
    exact inside_iff.2 ⟨h.1, right_of.2 (by omega), by dsimp only; omega⟩
theorem back_div {x y : Iv} (h : ivRight x = true) (k : ivRight y = true) (hp : ivRight (ivMul (ivDiv x y) y) = true) : ivInside x (ivMul (ivDiv x y) y) = true := by
  have bx := right_bd h
  have bw := right_bd k
  have hb : ivBoth (ivDiv x y) y = true := by
    cases hb : ivBoth (ivDiv x y) y
    · unfold ivMul at hp; rw [hb] at hp; simp [right_none] at hp
    · rfl
  have hq := (both_iff.1 hb).1
  have bq := right_bd hq
  obtain ⟨-, h0, -⟩ := div_right hq
  unfold Off at h0
  have e1 := div_encloses hq (p := x.lo) (q := y.lo) (by omega) (by omega)
  have e2 := div_encloses hq (p := x.hi) (q := y.lo) (by omega) (by omega)
  unfold ivMul at hp ⊢
  rw [if_pos hb] at hp ⊢
  generalize ivDiv x y = z at *
  unfold ivOut at hp ⊢
  rw [fdiv_one, fdiv_one] at hp ⊢
  have hr := right_of_of.1 hp
  rw [of_yes hr]
  refine inside_iff.2 ⟨h, right_of.2 hr, ?_⟩
  unfold min4 max4 at *
  dsimp only
  omega
/-- Numbers in two small intervals. -/
theorem encl_add {x y : Iv} {p q : Int} (h : Small x) (k : Small y) (hp : x.lo ≤ p ∧ p ≤ x.hi) (hq : y.lo ≤ q ∧ q ≤ y.hi) : ivHas (ivAdd x y) (p + q) = true := by
  have a := small_bd h
  have b := small_bd k
  unfold ivAdd
  rw [if_pos (both_iff.2 ⟨h.1, k.1⟩), of_yes (by omega)]
  unfold ivHas
  rw [right_of.2 (by omega)]
  simp
  omega
theorem encl_neg {x : Iv} {p : Int} (h : Small x) (hp : x.lo ≤ p ∧ p ≤ x.hi) : ivHas (ivNeg x) (-p) = true := by
  have a := small_bd h
  unfold ivNeg
  rw [if_pos h.1, of_yes (by omega)]
  unfold ivHas
  rw [right_of.2 (by omega)]
  simp
  omega
theorem encl_sub {x y : Iv} {p q : Int} (h : Small x) (k : Small y) (hp : x.lo ≤ p ∧ p ≤ x.hi) (hq : y.lo ≤ q ∧ q ≤ y.hi) : ivHas (ivSub x y) (p - q) = true := by
  have a := small_bd h
  have b := small_bd k
  rw [sub_eq, if_pos (both_iff.2 ⟨h.1, k.1⟩), of_yes (by omega)]
  unfold ivHas
  rw [right_of.2 (by omega)]
  simp
  omega
theorem small_prod {x y : Iv} (h : Small x) (k : Small y) : ∀ u v, (u = x.lo ∨ u = x.hi) → (v = y.lo ∨ v = y.hi) → -1725860238400 ≤ u * v ∧ u * v ≤ 1725860238400 := by
  have a := small_bd h
  have b := small_bd k
  intro u v hu hv
  exact mul_bd (A := 1313720) (B := 1313720) (by omega) (by omega)
theorem encl_mul {x y : Iv} {p q : Int} (h : Small x) (k : Small y) (hp : x.lo ≤ p ∧ p ≤ x.hi) (hq : y.lo ≤ q ∧ q ≤ y.hi) :
    ∃ l g : Int, ivMul x y = ⟨l, g, false⟩ ∧ (-1073741824 ≤ l ∧ l ≤ 1073741824) ∧ (-1073741824 ≤ g ∧ g ≤ 1073741824) ∧ l ≤ g ∧ l * 65536 ≤ p * q ∧ p * q ≤ g * 65536 := by
  have m := mul_between2 hp.1 hp.2 hq.1 hq.2
  have t1 := small_prod h k x.lo y.lo (.inl rfl) (.inl rfl)
  have t2 := small_prod h k x.lo y.hi (.inl rfl) (.inr rfl)
  have t3 := small_prod h k x.hi y.lo (.inr rfl) (.inl rfl)
  have t4 := small_prod h k x.hi y.hi (.inr rfl) (.inr rfl)
  have e : ivMul x y = ⟨min4 (x.lo * y.lo) (x.lo * y.hi) (x.hi * y.lo) (x.hi * y.hi) / 65536, -(-max4 (x.lo * y.lo) (x.lo * y.hi) (x.hi * y.lo) (x.hi * y.hi) / 65536), false⟩ := by
    unfold ivMul ivOut
    rw [if_pos (both_iff.2 ⟨h.1, k.1⟩), fdiv_one, fdiv_one, of_yes]
    unfold min4 max4
    omega
  refine ⟨_, _, e, ?_⟩
  unfold min4 max4 at *
  omega
theorem encl_sqr {x : Iv} {p : Int} (h : Small x) (hp : x.lo ≤ p ∧ p ≤ x.hi) :
    ∃ l g : Int, ivSqr x = ⟨l, g, false⟩ ∧ (0 ≤ l ∧ l ≤ 1073741824) ∧ (-1073741824 ≤ g ∧ g ≤ 1073741824) ∧ l ≤ g ∧ l * 65536 ≤ p * p ∧ p * p ≤ g * 65536 := by
  have s := sq_between hp.1 hp.2
  have t1 := small_prod h h x.lo x.lo (.inl rfl) (.inl rfl)
  have t2 := small_prod h h x.hi x.hi (.inr rfl) (.inr rfl)
  have s1 : 0 ≤ x.lo * x.lo := by rw [← abs_sq]; exact Int.mul_nonneg (by omega) (by omega)
  have s2 : 0 ≤ x.hi * x.hi := by rw [← abs_sq]; exact Int.mul_nonneg (by omega) (by omega)
  by_cases h0 : x.lo ≤ 0 ∧ 0 ≤ x.hi
  · have e : ivSqr x = ⟨0 / 65536, -(-max (x.lo * x.lo) (x.hi * x.hi) / 65536), false⟩ := by
      unfold ivSqr ivOut
      rw [if_pos h.1, has_zero h.1, if_pos (by simpa using h0), fdiv_one, fdiv_one, of_yes (by omega)]
    exact ⟨_, _, e, by omega⟩
  · have s3 := s.2.1 h0
    have e : ivSqr x = ⟨min (x.lo * x.lo) (x.hi * x.hi) / 65536, -(-max (x.lo * x.lo) (x.hi * x.hi) / 65536), false⟩ := by
      unfold ivSqr ivOut
      rw [if_pos h.1, has_zero h.1, if_neg (by simpa using h0), fdiv_one, fdiv_one, of_yes (by omega)]
    exact ⟨_, _, e, by omega⟩
theorem div_off {x y : Iv} (h : ivRight (ivDiv x y) = true) : ivHas y 0 = false := by
  obtain ⟨hb, h0, -⟩ := div_right h
  unfold Off at h0
  rw [has_zero (both_iff.1 hb).2]
  simpa using h0
/-- The root of a number that is not below 0 lies in the answer. -/
theorem encl_root {x : Iv} {p : Int} (h : Small x) (hp : x.lo ≤ p ∧ p ≤ x.hi) (h0 : 0 ≤ x.lo) :
    ∃ l g : Int, ivRoot x = ⟨l, g, false⟩ ∧ (0 ≤ l ∧ l ≤ 8388609) ∧ (0 ≤ g ∧ g ≤ 8388609) ∧ l ≤ g ∧ l * l ≤ p * 65536 ∧ p * 65536 ≤ g * g := by
  have b := right_bd h.1
  obtain ⟨r1, r2, r3⟩ := rootN_yes (n := x.lo) ⟨h0, by omega⟩ false
  obtain ⟨s1, s2, s3⟩ := rootN_yes (n := x.hi) ⟨by omega, by omega⟩ true
  have u1 := up_ge (x.lo * 65536)
  have u2 := up_ge (x.hi * 65536)
  have f1 := flRoot_bd (x.lo * 65536) (by omega) (by omega)
  have f2 := flRoot_bd (x.hi * 65536) (by omega) (by omega)
  have m1 := flRoot_mono (n := x.lo * 65536) (m := x.hi * 65536) (by omega) (by omega) (by omega)
  have hg : x.hi * 65536 ≤ upRoot (x.hi * 65536) true * upRoot (x.hi * 65536) true := by
    unfold upRoot
    cases hc : (flRoot (x.hi * 65536) * flRoot (x.hi * 65536) == x.hi * 65536)
    · simp only [Bool.true_and, Bool.not_false, if_true]; omega
    · have := eq_of_beq hc
      simp only [Bool.true_and, Bool.not_true, Bool.false_eq_true, if_false]; omega
  refine ⟨upRoot (x.lo * 65536) false, upRoot (x.hi * 65536) true, ?_, by omega, by omega, by omega, ?_, by omega⟩
  · unfold ivRoot
    rw [h.1, r1, s1]
    simp only [Bool.and_true, if_true]
    exact of_yes (by omega)
  · rw [u1.2.2]; omega
theorem root_none {x : Iv} (h0 : x.lo < 0) : ivRight (ivRoot x) = false := by
  rw [root_eq]
  have : decide (x.lo < 0) = true := by simpa using h0
  rw [this]
  simp [right_none]
/-- Halves, hulls, meets. -/
theorem less_hull2 {a b c : Iv} (h : ivLess a c = true) (k : ivLess b c = true) : ivLess (ivHull a b) c = true := by
  unfold ivLess at *
  cases hc : ivRight c
  · rfl
  · rw [hc] at h k
    simp only [Bool.not_true, Bool.false_or] at h k ⊢
    have h1 := inside_iff.1 h
    have k1 := inside_iff.1 k
    have b1 := right_bd h1.1
    have b2 := right_bd k1.1
    unfold ivHull
    rw [if_pos (both_iff.2 ⟨h1.1, k1.1⟩), of_yes (by omega)]
    exact inside_iff.2 ⟨right_of.2 (by omega), hc, by dsimp only; omega⟩
theorem split_form {x : Iv} (h : ivRight x = true) : ivSplit x = (⟨x.lo, ivMid x, false⟩, ⟨ivMid x, x.hi, false⟩) ∧ Part ⟨x.lo, ivMid x, false⟩ x ∧ Part ⟨ivMid x, x.hi, false⟩ x ∧ x.lo ≤ ivMid x ∧ ivMid x ≤ x.hi := by
  have b := right_bd h
  have m := mid_in h
  refine ⟨?_, ⟨right_of.2 (by omega), h, by dsimp only; omega⟩, ⟨right_of.2 (by omega), h, by dsimp only; omega⟩, m.2⟩
  unfold ivSplit
  rw [if_pos h, of_yes (by omega), of_yes (by omega)]
theorem part_refl {x : Iv} (h : ivRight x = true) : Part x x := ⟨h, h, by omega⟩
theorem both_comm (a b : Iv) : ivBoth a b = ivBoth b a := by unfold ivBoth; rw [Bool.and_comm]
theorem add_comm' (a b : Iv) : ivAdd a b = ivAdd b a := by
  unfold ivAdd; rw [both_comm, Int.add_comm, Int.add_comm a.hi]
theorem mul_comm' (a b : Iv) : ivMul a b = ivMul b a := by
  unfold ivMul
  rw [both_comm, Int.mul_comm b.lo a.lo, Int.mul_comm b.lo a.hi, Int.mul_comm b.hi a.lo, Int.mul_comm b.hi a.hi]
  have e1 : min4 (a.lo * b.lo) (a.lo * b.hi) (a.hi * b.lo) (a.hi * b.hi) = min4 (a.lo * b.lo) (a.hi * b.lo) (a.lo * b.hi) (a.hi * b.hi) := by unfold min4; omega
  have e2 : max4 (a.lo * b.lo) (a.lo * b.hi) (a.hi * b.lo) (a.hi * b.hi) = max4 (a.lo * b.lo) (a.hi * b.lo) (a.lo * b.hi) (a.hi * b.hi) := by unfold max4; omega
  rw [e1, e2]
theorem hull_comm (a b : Iv) : ivHull a b = ivHull b a := by
  unfold ivHull; rw [both_comm, Int.min_comm, Int.max_comm]
theorem meet_comm (a b : Iv) : ivMeet a b = ivMeet b a := by
  unfold ivMeet; rw [both_comm, Int.max_comm, Int.min_comm]
theorem neg_of (l h : Int) : ivNeg (ivOf l h) = ivOf (-h) (-l) := by
  rcases of_cases l h with ⟨e, h1⟩ | ⟨e, h1⟩
  · rw [e]
    unfold ivNeg
    rw [if_pos (right_of.2 h1)]
  · rw [e, of_no (by omega)]
    rfl
theorem neg_form {x : Iv} (h : ivRight x = true) : ivNeg x = ⟨-x.hi, -x.lo, false⟩ := by
  have b := right_bd h
  unfold ivNeg
  rw [if_pos h, of_yes (by omega)]
theorem neg_mul' {x y : Iv} (h : ivRight x = true) (k : ivRight y = true) : ivMul (ivNeg x) y = ivNeg (ivMul x y) := by
  have b := right_bd h
  rw [neg_form h]
  unfold ivMul
  rw [if_pos (both_iff.2 ⟨right_of.2 (by omega), k⟩), if_pos (both_iff.2 ⟨h, k⟩)]
  unfold ivOut
  rw [neg_of, fdiv_one, fdiv_one, fdiv_one, fdiv_one]
  simp only [Int.neg_mul]
  congr 1
  · unfold min4 max4; omega
  · unfold min4 max4; omega
theorem sqr_mul {x : Iv} (h : ivRight x = true) : ivInside (ivSqr x) (ivMul x x) = ivRight (ivMul x x) := by
  cases hm : ivRight (ivMul x x)
  · cases hi : ivInside (ivSqr x) (ivMul x x)
    · rfl
    · rw [(inside_iff.1 hi).2.1] at hm
      cases hm
  · have b := right_bd h
    have s1 : 0 ≤ x.lo * x.lo := by rw [← abs_sq]; exact Int.mul_nonneg (by omega) (by omega)
    have s2 : 0 ≤ x.hi * x.hi := by rw [← abs_sq]; exact Int.mul_nonneg (by omega) (by omega)
    have c1 := sq_between (l := x.lo) (u := x.lo) (h := x.hi) (by omega) (by omega)
    have m1 := mul_between x.lo (show x.lo ≤ x.lo by omega) b.2.2
    have m2 := mul_between2 (l := x.lo) (h := x.hi) (u := x.lo) (l2 := x.lo) (h2 := x.hi) (v := x.hi) (by omega) (by omega) (by omega) (by omega)
    have z : ∀ u v : Int, u * v ≤ max (u * u) (v * v) := by
      intro u v
      by_cases huv : u ≤ v
      · have := sq_between (l := u) (u := u) (h := v) (by omega) huv
        by_cases hu : 0 ≤ u
        · have := Int.mul_le_mul_of_nonneg_right huv (show 0 ≤ v by omega); omega
        · by_cases hv : 0 ≤ v
          · have := Int.mul_nonneg (show 0 ≤ -u by omega) hv
            have e : -u * v = -(u * v) := Int.neg_mul u v
            have := (sq_between (l := u) (u := u) (h := v) (by omega) huv).2.2
            omega
          · have := Int.mul_le_mul_of_nonpos_left (show u ≤ 0 by omega) huv; omega
      · by_cases hv : 0 ≤ v
        · have := Int.mul_le_mul_of_nonneg_left (show v ≤ u by omega) (show 0 ≤ u by omega); omega
        · by_cases hu : 0 ≤ u
          · have := Int.mul_nonneg hu (show 0 ≤ -v by omega)
            have e : u * -v = -(u * v) := Int.mul_neg u v
            have e2 : 0 ≤ u * u := Int.mul_nonneg hu hu
            omega
          · have := Int.mul_le_mul_of_nonpos_right (show v ≤ u by omega) (show v ≤ 0 by omega); omega
    have z1 := z x.lo x.hi
    have z2 := z x.hi x.lo
    have hb : ivBoth x x = true := both_iff.2 ⟨h, h⟩
    have c := Int.mul_comm x.hi x.lo
    unfold ivMul at hm ⊢
    rw [if_pos hb] at hm ⊢
    unfold ivOut at hm ⊢
    rw [fdiv_one, fdiv_one] at hm ⊢
    have hr := right_of_of.1 hm
    rw [of_yes hr]
    unfold min4 max4 at *
    have key : ∀ l : Int, 0 ≤ l → l ≤ max (x.lo * x.lo) (x.hi * x.hi) → (x.lo ≤ 0 ∧ 0 ≤ x.hi → l = 0) → (¬ (x.lo ≤ 0 ∧ 0 ≤ x.hi) → l = min (x.lo * x.lo) (x.hi * x.hi)) →
        ivInside (ivOf (l.fdiv 65536) (-((-(max (x.lo * x.lo) (x.hi * x.hi))).fdiv 65536))) ⟨(min (x.lo * x.lo) (min (x.lo * x.hi) (min (x.hi * x.lo) (x.hi * x.hi)))) / 65536, -(-(max (x.lo * x.lo) (max (x.lo * x.hi) (max (x.hi * x.lo) (x.hi * x.hi)))) / 65536), false⟩ = true := by
      intro l h1 h2 h3 h4
      have h5 : min (x.lo * x.lo) (min (x.lo * x.hi) (min (x.hi * x.lo) (x.hi * x.hi))) ≤ l := by
        by_cases h0 : x.lo ≤ 0 ∧ 0 ≤ x.hi
        · have := h3 h0
          have := Int.mul_nonneg (show 0 ≤ -x.lo by omega) h0.2
          have e : -x.lo * x.hi = -(x.lo * x.hi) := Int.neg_mul _ _
          omega
        · have := h4 h0
          omega
      rw [fdiv_one, fdiv_one, of_yes (by omega)]
      exact inside_iff.2 ⟨right_of.2 (by omega), right_of.2 hr, by dsimp only; omega⟩
    unfold ivSqr ivOut
    rw [if_pos h, has_zero h]
    by_cases h0 : x.lo ≤ 0 ∧ 0 ≤ x.hi
    · rw [if_pos (by simpa using h0)]
      exact key 0 (by omega) (by omega) (fun _ => rfl) (fun hn => absurd h0 hn)
    · rw [if_neg (by simpa using h0)]
      exact key _ (by omega) (by omega) (fun hn => absurd hn h0) (fun _ => rfl)
/-- An answer that is one lies within the bounds; else it is None. -/
def Good (z : Iv) : Prop := z = ivNone ∨ (z.no = false ∧ ivRight z = true)
theorem good_of (l h : Int) : Good (ivOf l h) := by
  rcases of_cases l h with ⟨e, h1⟩ | ⟨e, h1⟩
  · exact .inr ⟨by rw [e], by rw [e]; exact right_of.2 h1⟩
  · exact .inl e
theorem good_ite {c : Prop} [Decidable c] {a b : Iv} (h : Good a) (k : Good b) : Good (if c then a else b) := by split <;> assumption
theorem good_add (a b : Iv) : Good (ivAdd a b) := good_ite (good_of _ _) (.inl rfl)
theorem good_neg (a : Iv) : Good (ivNeg a) := good_ite (good_of _ _) (.inl rfl)
theorem good_sub (a b : Iv) : Good (ivSub a b) := good_add _ _
theorem good_mul (a b : Iv) : Good (ivMul a b) := good_ite (good_of _ _) (.inl rfl)
theorem good_times (a : Iv) (k : Int) : Good (ivTimes a k) := good_ite (good_of _ _) (.inl rfl)
theorem good_sqr (a : Iv) : Good (ivSqr a) := good_ite (good_ite (good_of _ _) (good_of _ _)) (.inl rfl)
theorem good_div (a b : Iv) : Good (ivDiv a b) := good_ite (good_ite (good_of _ _) (.inl rfl)) (.inl rfl)
theorem good_root (a : Iv) : Good (ivRoot a) := good_ite (good_of _ _) (.inl rfl)
theorem good_hull (a b : Iv) : Good (ivHull a b) := good_ite (good_of _ _) (.inl rfl)

end Go.Proofs.Ytgkkfmjlgmoefaa

