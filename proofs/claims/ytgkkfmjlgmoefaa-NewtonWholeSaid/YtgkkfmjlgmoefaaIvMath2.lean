/-
  Intervals of steps, in plain numbers: the plain saying's products and squares are the document's.
-/
import Derived.Test.YtgkkfmjlgmoefaaIvMath
namespace Go.Proofs.Ytgkkfmjlgmoefaa
set_option linter.unusedVariables false

theorem fdiv_one (n : Int) : n.fdiv 65536 = n / 65536 := Int.fdiv_eq_ediv_of_nonneg _ (by omega)
theorem told_in {n : Int} (h : -1073741824 ≤ n ∧ n ≤ 1073741824) : told n = (n, true) := by
  unfold told
  rw [if_pos (isIn_iff.2 h)]
theorem told_out {n : Int} (h : ¬ (-1073741824 ≤ n ∧ n ≤ 1073741824)) : told n = (0, false) := by
  unfold told
  rw [if_neg (fun e => h (isIn_iff.1 e))]
theorem mulN_in {x y : Int} (up : Bool) (hx : -1073741824 ≤ x ∧ x ≤ 1073741824) (hy : -1073741824 ≤ y ∧ y ≤ 1073741824) : mulN x y up = told (quo (x * y) 65536 up) := by
  unfold mulN
  rw [isIn_iff.2 hx, isIn_iff.2 hy]
  rfl
/-- Rounded outward: the least of four quotients by One is that of the least; none of them is a number, if one of them is none. -/
theorem out_four (p q r s : Int) : ivOut (min4 p q r s) (max4 p q r s) =
    if ((told (p / 65536)).2 && (told (-((-p) / 65536))).2) && (((told (q / 65536)).2 && (told (-((-q) / 65536))).2) && (((told (r / 65536)).2 && (told (-((-r) / 65536))).2) && ((told (s / 65536)).2 && (told (-((-s) / 65536))).2))) then
      ivOf (min4 (told (p / 65536)).1 (told (q / 65536)).1 (told (r / 65536)).1 (told (s / 65536)).1) (max4 (told (-((-p) / 65536))).1 (told (-((-q) / 65536))).1 (told (-((-r) / 65536))).1 (told (-((-s) / 65536))).1)
    else ivNone := by
  unfold ivOut
  rw [fdiv_one, fdiv_one]
  by_cases h : (-1073741824 ≤ p / 65536 ∧ -((-p) / 65536) ≤ 1073741824) ∧ (-1073741824 ≤ q / 65536 ∧ -((-q) / 65536) ≤ 1073741824) ∧ (-1073741824 ≤ r / 65536 ∧ -((-r) / 65536) ≤ 1073741824) ∧ (-1073741824 ≤ s / 65536 ∧ -((-s) / 65536) ≤ 1073741824)
  · rw [told_in (n := p / 65536) (by omega), told_in (n := -((-p) / 65536)) (by omega), told_in (n := q / 65536) (by omega), told_in (n := -((-q) / 65536)) (by omega),
      told_in (n := r / 65536) (by omega), told_in (n := -((-r) / 65536)) (by omega), told_in (n := s / 65536) (by omega), told_in (n := -((-s) / 65536)) (by omega)]
    show _ = ivOf _ _
    congr 1
    · show min p (min q (min r s)) / 65536 = min (p / 65536) (min (q / 65536) (min (r / 65536) (s / 65536)))
      omega
    · show -((-(max p (max q (max r s)))) / 65536) = max (-((-p) / 65536)) (max (-((-q) / 65536)) (max (-((-r) / 65536)) (-((-s) / 65536))))
      omega
  · have e : (((told (p / 65536)).2 && (told (-((-p) / 65536))).2) && (((told (q / 65536)).2 && (told (-((-q) / 65536))).2) && (((told (r / 65536)).2 && (told (-((-r) / 65536))).2) && ((told (s / 65536)).2 && (told (-((-s) / 65536))).2)))) = false := by
      rw [Bool.eq_false_iff]
      intro hc
      simp only [Bool.and_eq_true] at hc
      have tw : ∀ n, (told n).2 = true → -1073741824 ≤ n ∧ n ≤ 1073741824 := by
        intro n hn
        by_cases h1 : -1073741824 ≤ n ∧ n ≤ 1073741824
        · exact h1
        · rw [told_out h1] at hn; simp at hn
      obtain ⟨⟨h1, h2⟩, ⟨h3, h4⟩, ⟨h5, h6⟩, h7, h8⟩ := hc
      have := tw _ h1
      have := tw _ h2
      have := tw _ h3
      have := tw _ h4
      have := tw _ h5
      have := tw _ h6
      have := tw _ h7
      have := tw _ h8
      omega
    rw [e]
    show _ = ivNone
    apply of_no
    show ¬ ((-1073741824 ≤ min p (min q (min r s)) / 65536 ∧ _) ∧ (_ ∧ -((-(max p (max q (max r s)))) / 65536) ≤ 1073741824) ∧ _)
    omega
theorem mul_eq (a b : Iv) : ivMul a b = if ivBoth a b then ivEnds (fun x y => mulN x y false) (fun x y => mulN x y true) a b else ivNone := by
  unfold ivMul
  by_cases h : ivBoth a b = true
  · rw [if_pos h, if_pos h]
    have hb := both_bd h
    have m1 := mulN_in (x := a.lo) (y := b.lo) false (by omega) (by omega)
    have m2 := mulN_in (x := a.lo) (y := b.lo) true (by omega) (by omega)
    have m3 := mulN_in (x := a.lo) (y := b.hi) false (by omega) (by omega)
    have m4 := mulN_in (x := a.lo) (y := b.hi) true (by omega) (by omega)
    have m5 := mulN_in (x := a.hi) (y := b.lo) false (by omega) (by omega)
    have m6 := mulN_in (x := a.hi) (y := b.lo) true (by omega) (by omega)
    have m7 := mulN_in (x := a.hi) (y := b.hi) false (by omega) (by omega)
    have m8 := mulN_in (x := a.hi) (y := b.hi) true (by omega) (by omega)
    simp only [ivEnds, m1, m2, m3, m4, m5, m6, m7, m8, quo_dn, quo_up, fdiv_one]
    exact out_four _ _ _ _
  · rw [if_neg h, if_neg h]
theorem abs_sq (x : Int) : max x (-x) * max x (-x) = x * x := by
  by_cases h : 0 ≤ x
  · rw [Int.max_eq_left (by omega)]
  · rw [Int.max_eq_right (by omega)]
    rw [Int.neg_mul_neg]
theorem sq_le {x y : Int} (hx : 0 ≤ x) (h : x ≤ y) : x * x ≤ y * y := Int.mul_le_mul h h hx (by omega)
/-- The nearest to 0, the farthest from it, of what lies between two ends. -/
def ivNear (a : Iv) : Int := min (max a.lo (-a.lo)) (max a.hi (-a.hi))
def ivFar (a : Iv) : Int := max a.lo (max (-a.lo) (max a.hi (-a.hi)))
theorem near_sq (a : Iv) : ivNear a * ivNear a = min (a.lo * a.lo) (a.hi * a.hi) := by
  have h1 := abs_sq a.lo
  have h2 := abs_sq a.hi
  unfold ivNear
  by_cases h : max a.lo (-a.lo) ≤ max a.hi (-a.hi)
  · have := sq_le (by omega) h
    rw [Int.min_eq_left h, Int.min_eq_left (by omega)]
    exact h1
  · have := sq_le (x := max a.hi (-a.hi)) (y := max a.lo (-a.lo)) (by omega) (by omega)
    rw [Int.min_eq_right (by omega), Int.min_eq_right (by omega)]
    exact h2
theorem far_sq (a : Iv) : ivFar a * ivFar a = max (a.lo * a.lo) (a.hi * a.hi) := by
  have h1 := abs_sq a.lo
  have h2 := abs_sq a.hi
  by_cases h : max a.lo (-a.lo) ≤ max a.hi (-a.hi)
  · have h3 := sq_le (by omega) h
    have e : ivFar a = max a.hi (-a.hi) := by unfold ivFar; omega
    rw [e, h2]
    omega
  · have h3 := sq_le (x := max a.hi (-a.hi)) (y := max a.lo (-a.lo)) (by omega) (by omega)
    have e : ivFar a = max a.lo (-a.lo) := by unfold ivFar; omega
    rw [e, h1]
    omega
theorem near_bd {a : Iv} (h : ivRight a = true) : (0 ≤ ivNear a ∧ ivNear a ≤ 1073741824) ∧ 0 ≤ ivFar a ∧ ivFar a ≤ 1073741824 := by
  have := right_bd h
  unfold ivNear ivFar
  omega
theorem sq_out (n f : Int) (h : 0 ≤ n ∧ n ≤ f) : ivOut n f = if (told (-((-f) / 65536))).2 then ivOf (told (n / 65536)).1 (told (-((-f) / 65536))).1 else ivNone := by
  unfold ivOut
  rw [fdiv_one, fdiv_one]
  by_cases hf : -((-f) / 65536) ≤ 1073741824
  · rw [told_in (n := -((-f) / 65536)) (by omega), told_in (n := n / 65536) (by omega)]
    rfl
  · rw [told_out (n := -((-f) / 65536)) (by omega), of_no (by omega)]
    rfl
theorem sqr_eq (a : Iv) : ivSqr a = if ivRight a then (if (mulN (ivFar a) (ivFar a) true).2 then (if ivHas a 0 then ivOf (mulN 0 0 false).1 (mulN (ivFar a) (ivFar a) true).1 else ivOf (mulN (ivNear a) (ivNear a) false).1 (mulN (ivFar a) (ivFar a) true).1) else ivNone) else ivNone := by
  unfold ivSqr
  by_cases h : ivRight a = true
  · rw [if_pos h, if_pos h]
    obtain ⟨⟨n1, n2⟩, f1, f2⟩ := near_bd h
    have e1 : mulN 0 0 false = told (0 / 65536) := by decide
    have l1 := sq_le f1 f2
    have s1 : 0 ≤ a.lo * a.lo := by rw [← abs_sq]; exact Int.mul_nonneg (by omega) (by omega)
    have s2 : 0 ≤ a.hi * a.hi := by rw [← abs_sq]; exact Int.mul_nonneg (by omega) (by omega)
    rw [mulN_in (x := ivFar a) (y := ivFar a) true (by omega) (by omega), mulN_in (x := ivNear a) (y := ivNear a) false (by omega) (by omega), e1, near_sq, far_sq, quo_dn, quo_up, fdiv_one, fdiv_one]
    rw [sq_out 0 _ (by omega), sq_out _ _ (show 0 ≤ min (a.lo * a.lo) (a.hi * a.hi) ∧ min (a.lo * a.lo) (a.hi * a.hi) ≤ max (a.lo * a.lo) (a.hi * a.hi) by omega)]
    split <;> split <;> rfl
  · rw [if_neg h, if_neg h]

/-- The intervals that are handed in, of raw numbers. -/
def within (n a b : Int) : Int := max a (min b n)
def hWide (x w : Int) : Iv := ⟨within x (-1073741824) 1073741824, min 1073741824 (within x (-1073741824) 1073741824 + w), false⟩
def hTame (n w : Int) : Iv := hWide (n % 2621440 - 1310720) (w % 3000)
def hIv (n w : Int) : Iv :=
  if w % 12 = 0 then ⟨hnum n, hnum (w.tdiv 12), false⟩ else if w % 12 = 1 then ⟨hnum n, hnum n, w.tdiv 12 % 5 == 4⟩ else if w % 12 = 2 ∨ w % 12 = 3 then ⟨hnum n, hnum n, false⟩
  else hWide (hnum n) (w.tdiv 12 % 9000)
def hIn (a : Iv) (x y : Int) : Iv :=
  if ivRight a then ⟨a.lo + x % (a.hi - a.lo + 1), a.lo + x % (a.hi - a.lo + 1) + y % (a.hi - (a.lo + x % (a.hi - a.lo + 1)) + 1), false⟩ else a
theorem within_bd (n a b : Int) (h : a ≤ b) : a ≤ within n a b ∧ within n a b ≤ b := by
  unfold within
  omega
theorem hWide_right {x w : Int} (h : 0 ≤ w) : ivRight (hWide x w) = true := by
  have := within_bd x (-1073741824) 1073741824 (by omega)
  unfold hWide
  rw [right_of]
  omega
theorem hIn_right {a : Iv} (x y : Int) (h : ivRight a = true) : ivRight (hIn a x y) = true ∧ a.lo ≤ (hIn a x y).lo ∧ (hIn a x y).hi ≤ a.hi ∧ (hIn a x y).lo ≤ (hIn a x y).hi := by
  have hb := right_bd h
  have h1 := Int.emod_nonneg x (show a.hi - a.lo + 1 ≠ 0 by omega)
  have h2 := Int.emod_lt_of_pos x (show 0 < a.hi - a.lo + 1 by omega)
  unfold hIn
  rw [if_pos h]
  generalize x % (a.hi - a.lo + 1) = u at *
  have h3 := Int.emod_nonneg y (show a.hi - (a.lo + u) + 1 ≠ 0 by omega)
  have h4 := Int.emod_lt_of_pos y (show 0 < a.hi - (a.lo + u) + 1 by omega)
  generalize y % (a.hi - (a.lo + u) + 1) = v at *
  rw [right_of]
  dsimp only
  omega

end Go.Proofs.Ytgkkfmjlgmoefaa

