/-
  Intervals of steps, in plain numbers: what chapter 2's calls come to. Nothing of the program stands here.
  Intervals of steps, in plain numbers: the plain saying's products and squares are the document's.
  Intervals of steps, in plain numbers: of less each call tells less.
  What the statements of chapter 2 come to, in plain numbers.
  Intervals of steps, in plain numbers: what is turned about 0; less in less, one behind the other; squares and quotients of one length.
  What can be said, in plain numbers: chapter 3's calls. Unsure is 0, Yes is 1, No is 2.
  Where a square sum is nothing, in plain numbers: the root that is told, less of less, what lies in it.
  A glass's index, in plain intervals: of less light less; of one sum alone, whose C is 0, its square has 1 and that B; of more B it is not less.
-/
import Derived.Test.YtggohceeeggnmaaGreatGa

namespace Go.Proofs.YtggohceeeggnmaaGreat
set_option linter.unusedVariables false

structure Iv where
  lo : Int
  hi : Int
  no : Bool
@[reducible] def ivV (a : Iv) : Value := .agg #[.int .i64 a.lo, .int .i64 a.hi, .bool a.no]
def ivRight (a : Iv) : Bool := !a.no && (isIn a.lo && (isIn a.hi && decide (a.lo ≤ a.hi)))
def ivNone : Iv := ⟨0, 0, true⟩
def ivOf (lo hi : Int) : Iv := if ivRight ⟨lo, hi, false⟩ then ⟨lo, hi, false⟩ else ivNone
def ivPoint (n : Int) : Iv := ivOf n n
def ivWhole (n : Int) : Iv := if isIn n then ivPoint (n * 65536) else ivNone
def ivBoth (a b : Iv) : Bool := ivRight a && ivRight b
def ivAdd (a b : Iv) : Iv := if ivBoth a b then ivOf (a.lo + b.lo) (a.hi + b.hi) else ivNone
def ivNeg (a : Iv) : Iv := if ivRight a then ivOf (-a.hi) (-a.lo) else ivNone
def ivSub (a b : Iv) : Iv := ivAdd a (ivNeg b)
def ivOut (lo hi : Int) : Iv := ivOf (lo.fdiv 65536) (-((-hi).fdiv 65536))
@[reducible] def min4 (p q r s : Int) : Int := min p (min q (min r s))
@[reducible] def max4 (p q r s : Int) : Int := max p (max q (max r s))
def ivMul (a b : Iv) : Iv := if ivBoth a b then ivOut (min4 (a.lo * b.lo) (a.lo * b.hi) (a.hi * b.lo) (a.hi * b.hi)) (max4 (a.lo * b.lo) (a.lo * b.hi) (a.hi * b.lo) (a.hi * b.hi)) else ivNone
def ivTimes (a : Iv) (k : Int) : Iv := if ivRight a && isIn k then ivOf (min (k * a.lo) (k * a.hi)) (max (k * a.lo) (k * a.hi)) else ivNone
def ivHas (a : Iv) (n : Int) : Bool := ivRight a && (decide (a.lo ≤ n) && decide (n ≤ a.hi))
def ivSqr (a : Iv) : Iv :=
  if ivRight a then (if ivHas a 0 then ivOut 0 (max (a.lo * a.lo) (a.hi * a.hi)) else ivOut (min (a.lo * a.lo) (a.hi * a.hi)) (max (a.lo * a.lo) (a.hi * a.hi))) else ivNone
/-- Of four pairs of ends: the least of what is rounded down, to the greatest of what is rounded up; None, if one of them is none. -/
def ivEnds (d u : Int → Int → Int × Bool) (a b : Iv) : Iv :=
  if ((d a.lo b.lo).2 && (u a.lo b.lo).2) && (((d a.lo b.hi).2 && (u a.lo b.hi).2) && (((d a.hi b.lo).2 && (u a.hi b.lo).2) && ((d a.hi b.hi).2 && (u a.hi b.hi).2))) then
    ivOf (min4 (d a.lo b.lo).1 (d a.lo b.hi).1 (d a.hi b.lo).1 (d a.hi b.hi).1) (max4 (u a.lo b.lo).1 (u a.lo b.hi).1 (u a.hi b.lo).1 (u a.hi b.hi).1)
  else ivNone
def ivDiv (a b : Iv) : Iv := if ivBoth a b && !ivHas b 0 then ivEnds (fun x y => divN x y false) (fun x y => divN x y true) a b else ivNone
def ivRoot (a : Iv) : Iv := if ivRight a && ((rootN a.lo false).2 && (rootN a.hi true).2) then ivOf (rootN a.lo false).1 (rootN a.hi true).1 else ivNone
def ivMeet (a b : Iv) : Iv := if ivBoth a b then ivOf (max a.lo b.lo) (min a.hi b.hi) else ivNone
def ivMid (a : Iv) : Int := if ivRight a then (a.lo + a.hi).fdiv 2 else 0
def ivSplit (a : Iv) : Iv × Iv := if ivRight a then (ivOf a.lo (ivMid a), ivOf (ivMid a) a.hi) else (ivNone, ivNone)

theorem right_iff {a : Iv} : ivRight a = true ↔ a.no = false ∧ (-1073741824 ≤ a.lo ∧ a.lo ≤ 1073741824) ∧ (-1073741824 ≤ a.hi ∧ a.hi ≤ 1073741824) ∧ a.lo ≤ a.hi := by
  simp [ivRight, isIn_iff]
theorem right_bd {a : Iv} (h : ivRight a = true) : (-1073741824 ≤ a.lo ∧ a.lo ≤ 1073741824) ∧ (-1073741824 ≤ a.hi ∧ a.hi ≤ 1073741824) ∧ a.lo ≤ a.hi := (right_iff.1 h).2
theorem both_iff {a b : Iv} : ivBoth a b = true ↔ ivRight a = true ∧ ivRight b = true := by simp [ivBoth]
theorem both_bd {a b : Iv} (h : ivBoth a b = true) : ((-1073741824 ≤ a.lo ∧ a.lo ≤ 1073741824) ∧ (-1073741824 ≤ a.hi ∧ a.hi ≤ 1073741824) ∧ a.lo ≤ a.hi) ∧ ((-1073741824 ≤ b.lo ∧ b.lo ≤ 1073741824) ∧ (-1073741824 ≤ b.hi ∧ b.hi ≤ 1073741824) ∧ b.lo ≤ b.hi) :=
  ⟨right_bd (both_iff.1 h).1, right_bd (both_iff.1 h).2⟩
theorem right_of {lo hi : Int} : ivRight ⟨lo, hi, false⟩ = true ↔ (-1073741824 ≤ lo ∧ lo ≤ 1073741824) ∧ (-1073741824 ≤ hi ∧ hi ≤ 1073741824) ∧ lo ≤ hi := by
  rw [right_iff]; simp
theorem of_yes {lo hi : Int} (h : (-1073741824 ≤ lo ∧ lo ≤ 1073741824) ∧ (-1073741824 ≤ hi ∧ hi ≤ 1073741824) ∧ lo ≤ hi) : ivOf lo hi = ⟨lo, hi, false⟩ := by
  unfold ivOf; rw [if_pos (right_of.2 h)]
theorem of_no {lo hi : Int} (h : ¬ ((-1073741824 ≤ lo ∧ lo ≤ 1073741824) ∧ (-1073741824 ≤ hi ∧ hi ≤ 1073741824) ∧ lo ≤ hi)) : ivOf lo hi = ivNone := by
  unfold ivOf; rw [if_neg (fun e => h (right_of.1 e))]
theorem right_none : ivRight ivNone = false := rfl
/-- Whatever Of tells is right, or None. -/
theorem of_cases (lo hi : Int) : (ivOf lo hi = ⟨lo, hi, false⟩ ∧ ((-1073741824 ≤ lo ∧ lo ≤ 1073741824) ∧ (-1073741824 ≤ hi ∧ hi ≤ 1073741824) ∧ lo ≤ hi)) ∨
    (ivOf lo hi = ivNone ∧ ¬ ((-1073741824 ≤ lo ∧ lo ≤ 1073741824) ∧ (-1073741824 ≤ hi ∧ hi ≤ 1073741824) ∧ lo ≤ hi)) := by
  by_cases h : (-1073741824 ≤ lo ∧ lo ≤ 1073741824) ∧ (-1073741824 ≤ hi ∧ hi ≤ 1073741824) ∧ lo ≤ hi
  · exact .inl ⟨of_yes h, h⟩
  · exact .inr ⟨of_no h, h⟩
theorem prod_in {a b : Iv} (h : ivBoth a b = true) : ∀ x y, (x = a.lo ∨ x = a.hi) → (y = b.lo ∨ y = b.hi) → -1152921504606846976 ≤ x * y ∧ x * y ≤ 1152921504606846976 := by
  have hb := both_bd h
  intro x y hx hy
  exact mul_bd (A := 1073741824) (B := 1073741824) (by omega) (by omega)
theorem mid_in {a : Iv} (h : ivRight a = true) : ivMid a = (a.lo + a.hi) / 2 ∧ a.lo ≤ ivMid a ∧ ivMid a ≤ a.hi := by
  have := right_bd h
  unfold ivMid
  rw [if_pos h, Int.fdiv_eq_ediv_of_nonneg _ (by omega)]
  omega

theorem told_bd (n : Int) : -1073741824 ≤ (told n).1 ∧ (told n).1 ≤ 1073741824 := by
  unfold told
  split
  · rename_i h; exact isIn_iff.1 h
  · exact ⟨by decide, by decide⟩
theorem divN_bd (a b : Int) (up : Bool) : -1073741824 ≤ (divN a b up).1 ∧ (divN a b up).1 ≤ 1073741824 := by
  unfold divN
  split
  · exact told_bd _
  · exact ⟨by decide, by decide⟩
theorem min_div (p q r x y : Int) (up : Bool) : min 1073741824 (min p (min q (min r (divN x y up).1))) = min p (min q (min r (divN x y up).1)) := by
  have := divN_bd x y up
  omega
theorem max_div (p q r x y : Int) (up : Bool) : max (-1073741824) (max p (max q (max r (divN x y up).1))) = max p (max q (max r (divN x y up).1)) := by
  have := divN_bd x y up
  omega

/-- The four pairs of ends, one behind the other, as the plain saying goes through them: the least, the greatest, whether all were numbers, of the first k. -/
def loTo (d : Int → Int → Int × Bool) (a b : Iv) : Nat → Int
  | 0 => 0
  | 1 => (d a.lo b.lo).1
  | 2 => min (d a.lo b.lo).1 (d a.hi b.lo).1
  | 3 => min (min (d a.lo b.lo).1 (d a.hi b.lo).1) (d a.lo b.hi).1
  | _ => min (min (min (d a.lo b.lo).1 (d a.hi b.lo).1) (d a.lo b.hi).1) (d a.hi b.hi).1
def hiTo (d : Int → Int → Int × Bool) (a b : Iv) : Nat → Int
  | 0 => 0
  | 1 => (d a.lo b.lo).1
  | 2 => max (d a.lo b.lo).1 (d a.hi b.lo).1
  | 3 => max (max (d a.lo b.lo).1 (d a.hi b.lo).1) (d a.lo b.hi).1
  | _ => max (max (max (d a.lo b.lo).1 (d a.hi b.lo).1) (d a.lo b.hi).1) (d a.hi b.hi).1
def okTo (d u : Int → Int → Int × Bool) (a b : Iv) : Nat → Bool
  | 0 => true
  | 1 => ((d a.lo b.lo).2 && (u a.lo b.lo).2)
  | 2 => ((d a.lo b.lo).2 && (u a.lo b.lo).2) && ((d a.hi b.lo).2 && (u a.hi b.lo).2)
  | 3 => (((d a.lo b.lo).2 && (u a.lo b.lo).2) && ((d a.hi b.lo).2 && (u a.hi b.lo).2)) && ((d a.lo b.hi).2 && (u a.lo b.hi).2)
  | _ => ((((d a.lo b.lo).2 && (u a.lo b.lo).2) && ((d a.hi b.lo).2 && (u a.hi b.lo).2)) && ((d a.lo b.hi).2 && (u a.lo b.hi).2)) && ((d a.hi b.hi).2 && (u a.hi b.hi).2)
theorem ends_yes {d u : Int → Int → Int × Bool} {a b : Iv} (h : okTo d u a b 4 = true) : ivEnds d u a b = ivOf (loTo d a b 4) (hiTo u a b 4) := by
  simp only [okTo, Bool.and_eq_true] at h
  obtain ⟨⟨⟨⟨h1, h2⟩, h3, h4⟩, h5, h6⟩, h7, h8⟩ := h
  unfold ivEnds
  simp only [h1, h2, h3, h4, h5, h6, h7, h8, Bool.and_true, if_true, loTo, hiTo, min4, max4]
  congr 1 <;> omega
theorem ends_no {d u : Int → Int → Int × Bool} {a b : Iv} {k : Nat} (hk : k ≤ 4) (h : okTo d u a b k = false) : ivEnds d u a b = ivNone := by
  unfold ivEnds
  rw [if_neg]
  intro hc
  simp only [Bool.and_eq_true] at hc
  obtain ⟨⟨h1, h2⟩, ⟨h5, h6⟩, ⟨h3, h4⟩, h7, h8⟩ := hc
  match k, hk with
  | 0, _ => simp [okTo] at h
  | 1, _ => simp [okTo, *] at h
  | 2, _ => simp [okTo, *] at h
  | 3, _ => simp [okTo, *] at h
  | 4, _ => simp [okTo, *] at h

theorem sub_eq (a b : Iv) : ivSub a b = if ivBoth a b then ivOf (a.lo - b.hi) (a.hi - b.lo) else ivNone := by
  unfold ivSub ivAdd
  by_cases hb : ivRight b = true
  · have h := right_bd hb
    have e : ivNeg b = ⟨-b.hi, -b.lo, false⟩ := by
      unfold ivNeg; rw [if_pos hb, of_yes (by omega)]
    have e2 : ivBoth a (ivNeg b) = ivBoth a b := by
      unfold ivBoth; rw [e, hb, right_of.2 (by omega)]
    rw [e2, e]
    split
    · show ivOf (a.lo + -b.hi) (a.hi + -b.lo) = _
      rw [← Int.sub_eq_add_neg, ← Int.sub_eq_add_neg]
    · rfl
  · have e : ivNeg b = ivNone := by unfold ivNeg; rw [if_neg hb]
    have e2 : ivBoth a (ivNeg b) = false := by unfold ivBoth; rw [e, right_none]; simp
    have e3 : ivBoth a b = false := by
      cases h : ivBoth a b
      · rfl
      · exact absurd (both_iff.1 h).2 hb
    rw [e2, e3]
    rfl
/-- The root of a number of steps that is not below 0. -/
theorem rootN_yes {n : Int} (h : 0 ≤ n ∧ n ≤ 1073741824) (up : Bool) : rootN n up = (upRoot (n * 65536) up, true) ∧ 0 ≤ upRoot (n * 65536) up ∧ upRoot (n * 65536) up ≤ 8388609 := by
  have hi : isIn n = true := isIn_iff.2 (by omega)
  have h1 := in_root hi (by omega)
  have hb : 0 ≤ upRoot (n * 65536) up ∧ upRoot (n * 65536) up ≤ 8388609 := by
    unfold upRoot; split <;> omega
  refine ⟨?_, hb⟩
  unfold rootN
  rw [hi, show decide (n < 0) = false by simp; omega]
  show told _ = _
  unfold told
  rw [if_pos (isIn_iff.2 (by omega))]
theorem rootN_no {n : Int} (h : n < 0) (up : Bool) : rootN n up = (0, false) := by
  unfold rootN
  rw [show decide (n < 0) = true by simp; omega]
  simp
theorem root_eq (a : Iv) : ivRoot a = if ivRight a && !decide (a.lo < 0) then ivOf (rootN a.lo false).1 (rootN a.hi true).1 else ivNone := by
  unfold ivRoot
  cases h : ivRight a
  · rfl
  · have hb := right_bd h
    by_cases h0 : a.lo < 0
    · rw [rootN_no h0]
      simp [h0]
    · rw [(rootN_yes (n := a.lo) (by omega) false).1, (rootN_yes (n := a.hi) (by omega) true).1]
      simp [h0]

end Go.Proofs.YtggohceeeggnmaaGreat

namespace Go.Proofs.YtggohceeeggnmaaGreat
set_option linter.unusedVariables false

theorem fdiv_one (n : Int) : n.fdiv 65536 = n / 65536 := Int.fdiv_eq_ediv_of_nonneg _ (by omega)
theorem told_in {n : Int} (h : -1073741824 ≤ n ∧ n ≤ 1073741824) : told n = (n, true) := by
  unfold told
  rw [if_pos (isIn_iff.2 h)]
theorem told_out {n : Int} (h : ¬ (-1073741824 ≤ n ∧ n ≤ 1073741824)) : told n = (0, false) := by
  unfold told
  rw [if_neg (fun e => h (isIn_iff.1 e))]
theorem mulN_in {x y : Int} (up : Bool) (hx : -1073741824 ≤ x ∧ x ≤ 1073741824) (hy : -1073741824 ≤ y ∧ y ≤ 1073741824) : mulN x y up = told (quo (x * y) 65536 up) := by
  unfold mulN
  rw [isIn_iff.2 hx, isIn_iff.2 hy]
  rfl
/-- Rounded outward: the least of four quotients by One is that of the least; none of them is a number, if one of them is none. -/
theorem out_four (p q r s : Int) : ivOut (min4 p q r s) (max4 p q r s) =
    if ((told (p / 65536)).2 && (told (-((-p) / 65536))).2) && (((told (q / 65536)).2 && (told (-((-q) / 65536))).2) && (((told (r / 65536)).2 && (told (-((-r) / 65536))).2) && ((told (s / 65536)).2 && (told (-((-s) / 65536))).2))) then
      ivOf (min4 (told (p / 65536)).1 (told (q / 65536)).1 (told (r / 65536)).1 (told (s / 65536)).1) (max4 (told (-((-p) / 65536))).1 (told (-((-q) / 65536))).1 (told (-((-r) / 65536))).1 (told (-((-s) / 65536))).1)
    else ivNone := by
  unfold ivOut
  rw [fdiv_one, fdiv_one]
  by_cases h : (-1073741824 ≤ p / 65536 ∧ -((-p) / 65536) ≤ 1073741824) ∧ (-1073741824 ≤ q / 65536 ∧ -((-q) / 65536) ≤ 1073741824) ∧ (-1073741824 ≤ r / 65536 ∧ -((-r) / 65536) ≤ 1073741824) ∧ (-1073741824 ≤ s / 65536 ∧ -((-s) / 65536) ≤ 1073741824)
  · rw [told_in (n := p / 65536) (by omega), told_in (n := -((-p) / 65536)) (by omega), told_in (n := q / 65536) (by omega), told_in (n := -((-q) / 65536)) (by omega),
      told_in (n := r / 65536) (by omega), told_in (n := -((-r) / 65536)) (by omega), told_in (n := s / 65536) (by omega), told_in (n := -((-s) / 65536)) (by omega)]
    show _ = ivOf _ _
    congr 1
    · show min p (min q (min r s)) / 65536 = min (p / 65536) (min (q / 65536) (min (r / 65536) (s / 65536)))
      omega
    · show -((-(max p (max q (max r s)))) / 65536) = max (-((-p) / 65536)) (max (-((-q) / 65536)) (max (-((-r) / 65536)) (-((-s) / 65536))))
      omega
  · have e : (((told (p / 65536)).2 && (told (-((-p) / 65536))).2) && (((told (q / 65536)).2 && (told (-((-q) / 65536))).2) && (((told (r / 65536)).2 && (told (-((-r) / 65536))).2) && ((told (s / 65536)).2 && (told (-((-s) / 65536))).2)))) = false := by
      rw [Bool.eq_false_iff]
      intro hc
      simp only [Bool.and_eq_true] at hc
      have tw : ∀ n, (told n).2 = true → -1073741824 ≤ n ∧ n ≤ 1073741824 := by
        intro n hn
        by_cases h1 : -1073741824 ≤ n ∧ n ≤ 1073741824
        · exact h1
        · rw [told_out h1] at hn; simp at hn
      obtain ⟨⟨h1, h2⟩, ⟨h3, h4⟩, ⟨h5, h6⟩, h7, h8⟩ := hc
      have := tw _ h1
      have := tw _ h2
      have := tw _ h3
      have := tw _ h4
      have := tw _ h5
      have := tw _ h6
      have := tw _ h7
      have := tw _ h8
      omega
    rw [e]
    show _ = ivNone
    apply of_no
    show ¬ ((-1073741824 ≤ min p (min q (min r s)) / 65536 ∧ _) ∧ (_ ∧ -((-(max p (max q (max r s)))) / 65536) ≤ 1073741824) ∧ _)
    omega
theorem mul_eq (a b : Iv) : ivMul a b = if ivBoth a b then ivEnds (fun x y => mulN x y false) (fun x y => mulN x y true) a b else ivNone := by
  unfold ivMul
  by_cases h : ivBoth a b = true
  · rw [if_pos h, if_pos h]
    have hb := both_bd h
    have m1 := mulN_in (x := a.lo) (y := b.lo) false (by omega) (by omega)
    have m2 := mulN_in (x := a.lo) (y := b.lo) true (by omega) (by omega)
    have m3 := mulN_in (x := a.lo) (y := b.hi) false (by omega) (by omega)
    have m4 := mulN_in (x := a.lo) (y := b.hi) true (by omega) (by omega)
    have m5 := mulN_in (x := a.hi) (y := b.lo) false (by omega) (by omega)
    have m6 := mulN_in (x := a.hi) (y := b.lo) true (by omega) (by omega)
    have m7 := mulN_in (x := a.hi) (y := b.hi) false (by omega) (by omega)
    have m8 := mulN_in (x := a.hi) (y := b.hi) true (by omega) (by omega)
    simp only [ivEnds, m1, m2, m3, m4, m5, m6, m7, m8, quo_dn, quo_up, fdiv_one]
    exact out_four _ _ _ _
  · rw [if_neg h, if_neg h]
theorem abs_sq (x : Int) : max x (-x) * max x (-x) = x * x := by
  by_cases h : 0 ≤ x
  · rw [Int.max_eq_left (by omega)]
  · rw [Int.max_eq_right (by omega)]
    rw [Int.neg_mul_neg]
theorem sq_le {x y : Int} (hx : 0 ≤ x) (h : x ≤ y) : x * x ≤ y * y := Int.mul_le_mul h h hx (by omega)
/-- The nearest to 0, the farthest from it, of what lies between two ends. -/
def ivNear (a : Iv) : Int := min (max a.lo (-a.lo)) (max a.hi (-a.hi))
def ivFar (a : Iv) : Int := max a.lo (max (-a.lo) (max a.hi (-a.hi)))
theorem near_sq (a : Iv) : ivNear a * ivNear a = min (a.lo * a.lo) (a.hi * a.hi) := by
  have h1 := abs_sq a.lo
  have h2 := abs_sq a.hi
  unfold ivNear
  by_cases h : max a.lo (-a.lo) ≤ max a.hi (-a.hi)
  · have := sq_le (by omega) h
    rw [Int.min_eq_left h, Int.min_eq_left (by omega)]
    exact h1
  · have := sq_le (x := max a.hi (-a.hi)) (y := max a.lo (-a.lo)) (by omega) (by omega)
    rw [Int.min_eq_right (by omega), Int.min_eq_right (by omega)]
    exact h2
theorem far_sq (a : Iv) : ivFar a * ivFar a = max (a.lo * a.lo) (a.hi * a.hi) := by
  have h1 := abs_sq a.lo
  have h2 := abs_sq a.hi
  by_cases h : max a.lo (-a.lo) ≤ max a.hi (-a.hi)
  · have h3 := sq_le (by omega) h
    have e : ivFar a = max a.hi (-a.hi) := by unfold ivFar; omega
    rw [e, h2]
    omega
  · have h3 := sq_le (x := max a.hi (-a.hi)) (y := max a.lo (-a.lo)) (by omega) (by omega)
    have e : ivFar a = max a.lo (-a.lo) := by unfold ivFar; omega
    rw [e, h1]
    omega
theorem near_bd {a : Iv} (h : ivRight a = true) : (0 ≤ ivNear a ∧ ivNear a ≤ 1073741824) ∧ 0 ≤ ivFar a ∧ ivFar a ≤ 1073741824 := by
  have := right_bd h
  unfold ivNear ivFar
  omega
theorem sq_out (n f : Int) (h : 0 ≤ n ∧ n ≤ f) : ivOut n f = if (told (-((-f) / 65536))).2 then ivOf (told (n / 65536)).1 (told (-((-f) / 65536))).1 else ivNone := by
  unfold ivOut
  rw [fdiv_one, fdiv_one]
  by_cases hf : -((-f) / 65536) ≤ 1073741824
  · rw [told_in (n := -((-f) / 65536)) (by omega), told_in (n := n / 65536) (by omega)]
    rfl
  · rw [told_out (n := -((-f) / 65536)) (by omega), of_no (by omega)]
    rfl
theorem sqr_eq (a : Iv) : ivSqr a = if ivRight a then (if (mulN (ivFar a) (ivFar a) true).2 then (if ivHas a 0 then ivOf (mulN 0 0 false).1 (mulN (ivFar a) (ivFar a) true).1 else ivOf (mulN (ivNear a) (ivNear a) false).1 (mulN (ivFar a) (ivFar a) true).1) else ivNone) else ivNone := by
  unfold ivSqr
  by_cases h : ivRight a = true
  · rw [if_pos h, if_pos h]
    obtain ⟨⟨n1, n2⟩, f1, f2⟩ := near_bd h
    have e1 : mulN 0 0 false = told (0 / 65536) := by decide
    have l1 := sq_le f1 f2
    have s1 : 0 ≤ a.lo * a.lo := by rw [← abs_sq]; exact Int.mul_nonneg (by omega) (by omega)
    have s2 : 0 ≤ a.hi * a.hi := by rw [← abs_sq]; exact Int.mul_nonneg (by omega) (by omega)
    rw [mulN_in (x := ivFar a) (y := ivFar a) true (by omega) (by omega), mulN_in (x := ivNear a) (y := ivNear a) false (by omega) (by omega), e1, near_sq, far_sq, quo_dn, quo_up, fdiv_one, fdiv_one]
    rw [sq_out 0 _ (by omega), sq_out _ _ (show 0 ≤ min (a.lo * a.lo) (a.hi * a.hi) ∧ min (a.lo * a.lo) (a.hi * a.hi) ≤ max (a.lo * a.lo) (a.hi * a.hi) by omega)]
    split <;> split <;> rfl
  · rw [if_neg h, if_neg h]

/-- The intervals that are handed in, of raw numbers. -/
def within (n a b : Int) : Int := max a (min b n)
def hWide (x w : Int) : Iv := ⟨within x (-1073741824) 1073741824, min 1073741824 (within x (-1073741824) 1073741824 + w), false⟩
def hIv (n w : Int) : Iv :=
  if w % 12 = 0 then ⟨hnum n, hnum (w.tdiv 12), false⟩ else if w % 12 = 1 then ⟨hnum n, hnum n, w.tdiv 12 % 5 == 4⟩ else if w % 12 = 2 ∨ w % 12 = 3 then ⟨hnum n, hnum n, false⟩
  else hWide (hnum n) (w.tdiv 12 % 9000)
theorem within_bd (n a b : Int) (h : a ≤ b) : a ≤ within n a b ∧ within n a b ≤ b := by
  unfold within
  omega
end Go.Proofs.YtggohceeeggnmaaGreat

namespace Go.Proofs.YtggohceeeggnmaaGreat
set_option linter.unusedVariables false

/-- p is less of x. -/
def Part (p x : Iv) : Prop := ivRight p = true ∧ ivRight x = true ∧ x.lo ≤ p.lo ∧ p.hi ≤ x.hi
end Go.Proofs.YtggohceeeggnmaaGreat

namespace Go.Proofs.YtggohceeeggnmaaGreat
set_option linter.unusedVariables false

theorem split_form {x : Iv} (h : ivRight x = true) : ivSplit x = (⟨x.lo, ivMid x, false⟩, ⟨ivMid x, x.hi, false⟩) ∧ Part ⟨x.lo, ivMid x, false⟩ x ∧ Part ⟨ivMid x, x.hi, false⟩ x ∧ x.lo ≤ ivMid x ∧ ivMid x ≤ x.hi := by
  have b := right_bd h
  have m := mid_in h
  refine ⟨?_, ⟨right_of.2 (by omega), h, by dsimp only; omega⟩, ⟨right_of.2 (by omega), h, by dsimp only; omega⟩, m.2⟩
  unfold ivSplit
  rw [if_pos h, of_yes (by omega), of_yes (by omega)]
theorem both_comm (a b : Iv) : ivBoth a b = ivBoth b a := by unfold ivBoth; rw [Bool.and_comm]
/-- An answer that is one lies within the bounds; else it is None. -/
def Good (z : Iv) : Prop := z = ivNone ∨ (z.no = false ∧ ivRight z = true)
theorem good_of (l h : Int) : Good (ivOf l h) := by
  rcases of_cases l h with ⟨e, h1⟩ | ⟨e, h1⟩
  · exact .inr ⟨by rw [e], by rw [e]; exact right_of.2 h1⟩
  · exact .inl e
theorem good_ite {c : Prop} [Decidable c] {a b : Iv} (h : Good a) (k : Good b) : Good (if c then a else b) := by split <;> assumption
theorem good_add (a b : Iv) : Good (ivAdd a b) := good_ite (good_of _ _) (.inl rfl)
end Go.Proofs.YtggohceeeggnmaaGreat

namespace Go.Proofs.YtggohceeeggnmaaGreat
set_option linter.unusedVariables false

/-! About 0. -/
/-! Times nothing, times one. -/
theorem fdiv_steps (n : Int) : (n * 65536).fdiv 65536 = n := by rw [fdiv_one]; omega
theorem right_eta {a : Iv} (h : ivRight a = true) : (⟨a.lo, a.hi, false⟩ : Iv) = a := by
  have e := (right_iff.1 h).1
  obtain ⟨lo, hi, no⟩ := a
  dsimp only at e ⊢
  rw [e]
theorem mul_one {a : Iv} (h : ivRight a = true) : ivMul a ⟨65536, 65536, false⟩ = a := by
  have b := right_bd h
  unfold ivMul ivOut
  rw [if_pos (both_iff.2 ⟨h, by decide⟩)]
  dsimp only
  rw [show min4 (a.lo * 65536) (a.lo * 65536) (a.hi * 65536) (a.hi * 65536) = a.lo * 65536 by unfold min4; omega,
    show max4 (a.lo * 65536) (a.lo * 65536) (a.hi * 65536) (a.hi * 65536) = a.hi * 65536 by unfold max4; omega,
    ← Int.neg_mul, fdiv_steps, fdiv_steps, Int.neg_neg, of_yes (by omega), right_eta h]
theorem add_zero {a : Iv} (h : ivRight a = true) : ivAdd a ⟨0, 0, false⟩ = a := by
  have b := right_bd h
  unfold ivAdd
  rw [if_pos (both_iff.2 ⟨h, by decide⟩), of_yes (by dsimp only; omega), Int.add_zero, Int.add_zero, right_eta h]

/-! Squares, where they are. -/
/-! Roots, where they are. -/
end Go.Proofs.YtggohceeeggnmaaGreat

namespace Go.Proofs.YtggohceeeggnmaaGreat
set_option linter.unusedVariables false

def triLess (a b : Iv) : Int := if ivBoth a b then (if a.hi < b.lo then 1 else if b.hi ≤ a.lo then 2 else 0) else 0
def triNA (a b : Iv) : Int := if ivBoth a b then (if a.hi ≤ b.lo then 1 else if b.hi < a.lo then 2 else 0) else 0
def triNot (n : Int) : Int := if n = 1 then 2 else if n = 2 then 1 else 0
theorem triNA_cases (a b : Iv) : (triNA a b = 1 ∧ ivBoth a b = true ∧ a.hi ≤ b.lo) ∨ (triNA a b = 2 ∧ ivBoth a b = true ∧ b.hi < a.lo) ∨ triNA a b = 0 := by
  unfold triNA
  cases ivBoth a b
  · simp
  · by_cases h : a.hi ≤ b.lo
    · simp [h]
    · by_cases h' : b.hi < a.lo <;> simp [h, h']
/-- Less of a and b is the opposite of 'not above' of b and a. -/
theorem less_not (a b : Iv) : triNot (triNA b a) = triLess a b := by
  unfold triNot triNA triLess
  rw [both_comm b a]
  cases h : ivBoth a b
  · simp
  · have r := both_bd h
    simp only [if_true]
    by_cases h1 : b.hi ≤ a.lo
    · have : ¬ a.hi < b.lo := by omega
      simp [h1, this]
    · by_cases h2 : a.hi < b.lo <;> simp [h1, h2]
theorem na_not (a b : Iv) : triNot (triLess b a) = triNA a b := by
  rw [← less_not b a]
  unfold triNot
  have h := triNA_cases a b
  rcases h with ⟨t, -⟩ | ⟨t, -⟩ | t <;> simp [t]
end Go.Proofs.YtggohceeeggnmaaGreat

namespace Go.Proofs.YtggohceeeggnmaaGreat
set_option linter.unusedVariables false

def qDet (a b c : Iv) : Iv := ivSub (ivSqr b) (ivMul a c)
def qRoot (a b c : Iv) : Iv := ivDiv c (ivSub (ivRoot (qDet a b c)) b)
def qIs (a b c : Iv) : Int := if triNA ⟨0, 0, false⟩ (qDet a b c) = 1 then (if ivRight (qRoot a b c) then 1 else 0) else triNA ⟨0, 0, false⟩ (qDet a b c)
def qNear (a b c : Iv) : Iv := if qIs a b c = 1 then qRoot a b c else ivNone

theorem quad_cases (a b c : Iv) : (qIs a b c = 1 ∧ qNear a b c = qRoot a b c ∧ ivRight (qRoot a b c) = true ∧ ivRight (qDet a b c) = true ∧ 0 ≤ (qDet a b c).lo) ∨
    (qIs a b c = 2 ∧ qNear a b c = ivNone ∧ ivRight (qDet a b c) = true ∧ (qDet a b c).hi < 0) ∨ (qIs a b c = 0 ∧ qNear a b c = ivNone) := by
  unfold qNear
  rcases triNA_cases ⟨0, 0, false⟩ (qDet a b c) with ⟨e, hb, h⟩ | ⟨e, hb, h⟩ | e
  · cases hr : ivRight (qRoot a b c)
    · have hq : qIs a b c = 0 := by unfold qIs; rw [if_pos e, hr]; rfl
      rw [hq]
      exact .inr (.inr ⟨rfl, rfl⟩)
    · have hq : qIs a b c = 1 := by unfold qIs; rw [if_pos e, hr]; rfl
      rw [hq]
      exact .inl ⟨rfl, rfl, rfl, (both_iff.1 hb).2, h⟩
  · have hq : qIs a b c = 2 := by unfold qIs; rw [e]; rfl
    rw [hq]
    exact .inr (.inl ⟨rfl, rfl, (both_iff.1 hb).2, h⟩)
  · have hq : qIs a b c = 0 := by unfold qIs; rw [e]; rfl
    rw [hq]
    exact .inr (.inr ⟨rfl, rfl⟩)
/-! Less in less. -/
/-! What lies in what: numbers that are fractions, too: P / Q. -/
/-! Roots that are whole. -/
end Go.Proofs.YtggohceeeggnmaaGreat

namespace Go.Proofs.YtggohceeeggnmaaGreat
set_option linter.unusedVariables false

def glSum (l b c : Iv) : Iv := ivDiv (ivMul b l) (ivSub l c)
def ixOf (l b0 c0 b1 c1 b2 c2 : Iv) : Iv := ivRoot (ivAdd (ivAdd (ivAdd (ivPoint 65536) (glSum l b0 c0)) (glSum l b1 c1)) (glSum l b2 c2))

/-! ### One sum alone -/
end Go.Proofs.YtggohceeeggnmaaGreat
