/-
  What the statements of chapter 1 come to, in plain numbers.
-/
import Derived.Test.YtolcafjchlkkiaaMath
namespace Go.Proofs.Ytolcafjchlkkiaa

theorem isIn_neg (n : Int) : isIn (-n) = isIn n := by
  have h : isIn (-n) = true ↔ isIn n = true := by rw [isIn_iff, isIn_iff]; omega
  cases h1 : isIn n <;> cases h2 : isIn (-n) <;> simp_all
theorem told_neg (n : Int) : told (-n) = (-(told n).1, (told n).2) := by
  unfold told
  rw [isIn_neg]
  split <;> rfl
theorem quo_neg (a b : Int) (up : Bool) : quo (-a) b (!up) = -quo a b up := by
  cases up
  · show -((- -a).fdiv b) = -(a.fdiv b)
    rw [Int.neg_neg]
  · show (-a).fdiv b = - -((-a).fdiv b)
    omega
theorem quo_neg2 (a b : Int) (up : Bool) : quo a (-b) (!up) = -quo a b up := by
  cases up
  · show -((-a).fdiv (-b)) = -(a.fdiv b)
    rw [Int.neg_fdiv_neg]
  · show a.fdiv (-b) = - -((-a).fdiv b)
    have h := Int.neg_fdiv_neg (-a) b
    rw [Int.neg_neg] at h
    omega
theorem told_in {n : Int} (h : -1073741824 ≤ n ∧ n ≤ 1073741824) : told n = (n, true) := by
  unfold told
  rw [if_pos (isIn_iff.2 h)]
theorem fdiv_one (n : Int) : n.fdiv 65536 = n / 65536 := Int.fdiv_eq_ediv_of_nonneg _ (by omega)
theorem small_mul {x y : Int} (hx : -8388608 < x ∧ x < 8388608) (hy : -8388608 < y ∧ y < 8388608) : -70368744177664 < x * y ∧ x * y < 70368744177664 := by
  have := mul_bd (a := x) (b := y) (A := 8388607) (B := 8388607) (by omega) (by omega)
  omega
theorem mulN_small {x y : Int} (up : Bool) (hx : -8388608 < x ∧ x < 8388608) (hy : -8388608 < y ∧ y < 8388608) :
    mulN x y up = (quo (x * y) 65536 up, true) ∧ -1073741824 ≤ quo (x * y) 65536 up ∧ quo (x * y) 65536 up ≤ 1073741824 := by
  have h := small_mul hx hy
  have hq : -1073741824 ≤ quo (x * y) 65536 up ∧ quo (x * y) 65536 up ≤ 1073741824 := by
    cases up
    · rw [quo_dn, fdiv_one]; omega
    · rw [quo_up, fdiv_one]; omega
  refine ⟨?_, hq⟩
  unfold mulN
  rw [isIn_iff.2 (show _ ∧ _ by omega), isIn_iff.2 (show _ ∧ _ by omega)]
  exact told_in hq
theorem mulN_one {x : Int} (up : Bool) (hx : -8388608 < x ∧ x < 8388608) : mulN x 65536 up = (x, true) := by
  unfold mulN
  rw [isIn_iff.2 (show _ ∧ _ by omega), isIn_iff.2 (show _ ∧ _ by omega)]
  have h : quo (x * 65536) 65536 up = x := by
    cases up
    · rw [quo_dn, fdiv_one]; omega
    · rw [quo_up, fdiv_one]; omega
  show told _ = _
  rw [h]
  exact told_in (by omega)
theorem divN_one {x : Int} (up : Bool) (hx : -8388608 < x ∧ x < 8388608) : divN x 65536 up = (x, true) := by
  unfold divN
  rw [isIn_iff.2 (show _ ∧ _ by omega), isIn_iff.2 (show _ ∧ _ by omega)]
  have h : quo (x * 65536) 65536 up = x := by
    cases up
    · rw [quo_dn, fdiv_one]; omega
    · rw [quo_up, fdiv_one]; omega
  show told _ = _
  rw [h]
  exact told_in (by omega)
theorem told_bd (n : Int) : -1073741824 ≤ (told n).1 ∧ (told n).1 ≤ 1073741824 := by
  unfold told
  split
  · rename_i h; exact isIn_iff.1 h
  · exact ⟨by decide, by decide⟩
theorem divN_bd (a b : Int) (up : Bool) : -1073741824 ≤ (divN a b up).1 ∧ (divN a b up).1 ≤ 1073741824 := by
  unfold divN
  split
  · exact told_bd _
  · exact ⟨by decide, by decide⟩
theorem divN_neg (a b : Int) (up : Bool) : divN a (-b) (!up) = (-(divN a b up).1, (divN a b up).2) := by
  unfold divN
  have h : (-b == 0) = (b == 0) := by
    rw [Bool.eq_iff_iff]; simp
  rw [isIn_neg, h, quo_neg2]
  split
  · exact told_neg _
  · rfl
/-- All that NumSigns asks of two small numbers. -/
theorem signs (x y : Int) (up : Bool) (hx : -8388608 < x ∧ x < 8388608) (hy : -8388608 < y ∧ y < 8388608) :
    ∃ (p q : Int) (t : Bool), mulN x y up = (p, true) ∧ mulN (-x) y (!up) = (-p, true) ∧ mulN y x up = (p, true) ∧ divN x y up = (q, t) ∧ divN x (-y) (!up) = (-q, t) ∧
      (-1073741824 ≤ p ∧ p ≤ 1073741824) ∧ (-1073741824 ≤ q ∧ q ≤ 1073741824) ∧ mulN x 65536 up = (x, true) ∧ divN x 65536 up = (x, true) := by
  have h1 := mulN_small up hx hy
  have h2 := mulN_small (x := -x) (!up) (by omega) hy
  have h3 := mulN_small up hy hx
  rw [Int.neg_mul, quo_neg] at h2
  rw [Int.mul_comm] at h3
  exact ⟨_, (divN x y up).1, (divN x y up).2, h1.1, h2.1, h3.1, rfl, divN_neg _ _ _, h1.2, divN_bd _ _ _, mulN_one _ hx, divN_one _ hx⟩
theorem tmod_small (n : Int) : -8388608 < n.tmod 8388608 ∧ n.tmod 8388608 < 8388608 := by
  by_cases h : 0 ≤ n
  · rw [Int.tmod_eq_emod_of_nonneg h]; omega
  · have h1 : n.tmod 8388608 = -((-n).tmod 8388608) := by rw [Int.neg_tmod, Int.neg_neg]
    rw [Int.tmod_eq_emod_of_nonneg (show 0 ≤ -n by omega)] at h1
    rw [h1]
    omega
/-- The product's two sides. -/
theorem prod_sides (x y : Int) (hx : -8388608 < x ∧ x < 8388608) (hy : -8388608 < y ∧ y < 8388608) :
    ∃ lo hi : Int, mulN x y false = (lo, true) ∧ mulN x y true = (hi, true) ∧ lo * 65536 ≤ x * y ∧ x * y ≤ hi * 65536 ∧ lo ≤ hi ∧ hi ≤ lo + 1 ∧
      (-1073741824 ≤ lo ∧ lo ≤ 1073741824) ∧ (-1073741824 ≤ hi ∧ hi ≤ 1073741824) ∧ ((x * y).tmod 65536 = 0 ↔ hi = lo) := by
  have h1 := mulN_small false hx hy
  have h2 := mulN_small true hx hy
  refine ⟨_, _, h1.1, h2.1, ?_, ?_, ?_, ?_, h1.2, h2.2, ?_⟩
  all_goals
    try rw [quo_dn, fdiv_one]
    try rw [quo_up, fdiv_one]
  · omega
  · omega
  · omega
  · omega
  · have h3 : (x * y).tmod 65536 = 0 ↔ (x * y) % 65536 = 0 := by
      rw [← Int.dvd_iff_tmod_eq_zero, Int.dvd_iff_emod_eq_zero]
    rw [h3]
    omega
/-- The quotient's two sides: n by c, c above 512. -/
theorem quot_sides (n c : Int) (hc : 512 < c) (hn : -549755813888 < n ∧ n < 549755813888) :
    ∃ lo hi : Int, told (n.fdiv c) = (lo, true) ∧ told (-((-n).fdiv c)) = (hi, true) ∧ lo * c ≤ n ∧ n ≤ hi * c ∧ lo ≤ hi ∧ hi ≤ lo + 1 ∧
      (-1073741824 ≤ lo ∧ lo ≤ 1073741824) ∧ (-1073741824 ≤ hi ∧ hi ≤ 1073741824) ∧ (n.tmod c = 0 ↔ hi = lo) := by
  have h0 : n.fdiv c = n / c := Int.fdiv_eq_ediv_of_nonneg _ (by omega)
  have h1 := ceil_eq n c (by omega)
  have h2 := Int.mul_ediv_add_emod n c
  have h3 := Int.emod_nonneg n (show c ≠ 0 by omega)
  have h4 := Int.emod_lt_of_pos n (show 0 < c by omega)
  have h5 : n.tmod c = 0 ↔ n % c = 0 := by
    rw [← Int.dvd_iff_tmod_eq_zero, Int.dvd_iff_emod_eq_zero]
  have h6 : -1073741823 ≤ n / c := by
    rw [Int.le_ediv_iff_mul_le (by omega)]
    have : 1073741823 * 513 ≤ 1073741823 * c := Int.mul_le_mul_of_nonneg_left (by omega) (by omega)
    omega
  have h7 : n / c < 1073741823 := by
    rw [Int.ediv_lt_iff_lt_mul (by omega)]
    have : 1073741823 * 513 ≤ 1073741823 * c := Int.mul_le_mul_of_nonneg_left (by omega) (by omega)
    omega
  rw [h0] at h1 ⊢
  rw [Int.mul_comm] at h2
  have h8 : (n / c + 1) * c = n / c * c + c := by rw [Int.add_mul]; omega
  refine ⟨n / c, -((-n).fdiv c), told_in (by omega), told_in ?_, by omega, ?_, ?_, ?_, by omega, ?_, ?_⟩
  · rw [h1]; split <;> omega
  · rw [h1]; split
    · omega
    · omega
  · rw [h1]; split <;> omega
  · rw [h1]; split <;> omega
  · rw [h1]; split <;> omega
  · rw [h5, h1]; split <;> omega
/-- The quotient's two sides, of numbers of steps. -/
theorem div_sides (x y : Int) (hx : -8388608 < x ∧ x < 8388608) (hy : -8388608 < y ∧ y < 8388608) (n c : Int)
    (h : (0 < y ∧ n = x * 65536 ∧ c = y) ∨ (y < 0 ∧ n = -(x * 65536) ∧ c = -y)) (hc : 512 < c) :
    ∃ lo hi : Int, divN x y false = (lo, true) ∧ divN x y true = (hi, true) ∧ lo * c ≤ n ∧ n ≤ hi * c ∧ lo ≤ hi ∧ hi ≤ lo + 1 ∧
      (-1073741824 ≤ lo ∧ lo ≤ 1073741824) ∧ (-1073741824 ≤ hi ∧ hi ≤ 1073741824) ∧ (n.tmod c = 0 ↔ hi = lo) := by
  obtain ⟨lo, hi, h1, h2, h3⟩ := quot_sides n c hc (by omega)
  refine ⟨lo, hi, ?_, ?_, h3⟩
  · rw [← h1]
    unfold divN
    rw [isIn_iff.2 (show _ ∧ _ by omega), isIn_iff.2 (show _ ∧ _ by omega), show (y == 0) = false by simp; omega]
    show told _ = _
    rcases h with ⟨_, rfl, rfl⟩ | ⟨_, rfl, rfl⟩
    · rfl
    · rw [quo_dn, Int.neg_fdiv_neg]
  · rw [← h2]
    unfold divN
    rw [isIn_iff.2 (show _ ∧ _ by omega), isIn_iff.2 (show _ ∧ _ by omega), show (y == 0) = false by simp; omega]
    show told _ = _
    rcases h with ⟨_, rfl, rfl⟩ | ⟨_, rfl, rfl⟩
    · rfl
    · rw [quo_up, Int.neg_fdiv_neg]
/-- The root's two sides. -/
theorem root_sides (m : Int) (hm : 0 ≤ m ∧ m < 8388608) :
    ∃ r s : Int, rootN m false = (r, true) ∧ rootN m true = (s, true) ∧ r * r ≤ m * 65536 ∧ m * 65536 ≤ s * s ∧ r ≤ s ∧ s ≤ r + 1 ∧ 0 ≤ r ∧ r ≤ 8388608 ∧
      (r * r = m * 65536 ↔ s = r) := by
  have hi : isIn m = true := isIn_iff.2 (by omega)
  have h1 := in_root hi (by omega)
  have h2 := flRoot_bd (m * 65536) (by omega) (by omega)
  have e : ∀ up, rootN m up = (upRoot (m * 65536) up, true) := by
    intro up
    have hb : 0 ≤ upRoot (m * 65536) up ∧ upRoot (m * 65536) up ≤ 8388609 := by
      unfold upRoot; split <;> omega
    unfold rootN
    rw [hi, show decide (m < 0) = false by simp; omega]
    exact told_in (by omega)
  have ed : upRoot (m * 65536) false = flRoot (m * 65536) := by simp [upRoot]
  by_cases hr : flRoot (m * 65536) * flRoot (m * 65536) = m * 65536
  · have eu : upRoot (m * 65536) true = flRoot (m * 65536) := by simp [upRoot, hr]
    refine ⟨_, _, e false, e true, ?_, ?_, ?_, ?_, ?_, ?_, ?_⟩
    all_goals
      try rw [ed]
      try rw [eu]
      try omega
  · have eu : upRoot (m * 65536) true = flRoot (m * 65536) + 1 := by simp [upRoot, hr]
    refine ⟨_, _, e false, e true, ?_, ?_, ?_, ?_, ?_, ?_, ?_⟩
    all_goals
      try rw [ed]
      try rw [eu]
      try omega

end Go.Proofs.Ytolcafjchlkkiaa
