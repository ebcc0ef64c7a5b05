/-
  Intervals of steps, in plain numbers: what chapter 2's calls come to. Nothing of the program stands here.
  Intervals of steps, in plain numbers: the plain saying's products and squares are the document's.
  Intervals of steps, in plain numbers: of less each call tells less.
  Intervals of steps, in plain numbers: quotients; what is enclosed; what comes back.
  What the statements of chapter 2 come to, in plain numbers.
  Intervals of steps, in plain numbers: what is turned about 0; less in less, one behind the other; squares and quotients of one length.
  What can be said, in plain numbers: chapter 3's calls. Unsure is 0, Yes is 1, No is 2.
  Where a square sum is nothing, in plain numbers: the root that is told, less of less, what lies in it.
-/
import Derived.Test.YtekhhekkepijoaaGa

namespace Go.Proofs.Ytekhhekkepijoaa
set_option linter.unusedVariables false

structure Iv where
  lo : Int
  hi : Int
  no : Bool
@[reducible] def ivV (a : Iv) : Value := .agg #[.int .i64 a.lo, .int .i64 a.hi, .bool a.no]
def ivRight (a : Iv) : Bool := !a.no && (isIn a.lo && (isIn a.hi && decide (a.lo ≤ a.hi)))
def ivNone : Iv := ⟨0, 0, true⟩
def ivOf (lo hi : Int) : Iv := if ivRight ⟨lo, hi, false⟩ then ⟨lo, hi, false⟩ else ivNone
def ivPoint (n : Int) : Iv := ivOf n n
def ivWhole (n : Int) : Iv := if isIn n then ivPoint (n * 65536) else ivNone
def ivBoth (a b : Iv) : Bool := ivRight a && ivRight b
def ivAdd (a b : Iv) : Iv := if ivBoth a b then ivOf (a.lo + b.lo) (a.hi + b.hi) else ivNone
def ivNeg (a : Iv) : Iv := if ivRight a then ivOf (-a.hi) (-a.lo) else ivNone
def ivSub (a b : Iv) : Iv := ivAdd a (ivNeg b)
def ivOut (lo hi : Int) : Iv := ivOf (lo.fdiv 65536) (-((-hi).fdiv 65536))
@[reducible] def min4 (p q r s : Int) : Int := min p (min q (min r s))
@[reducible] def max4 (p q r s : Int) : Int := max p (max q (max r s))
def ivMul (a b : Iv) : Iv := if ivBoth a b then ivOut (min4 (a.lo * b.lo) (a.lo * b.hi) (a.hi * b.lo) (a.hi * b.hi)) (max4 (a.lo * b.lo) (a.lo * b.hi) (a.hi * b.lo) (a.hi * b.hi)) else ivNone
def ivTimes (a : Iv) (k : Int) : Iv := if ivRight a && isIn k then ivOf (min (k * a.lo) (k * a.hi)) (max (k * a.lo) (k * a.hi)) else ivNone
def ivHas (a : Iv) (n : Int) : Bool := ivRight a && (decide (a.lo ≤ n) && decide (n ≤ a.hi))
def ivInside (a b : Iv) : Bool := ivBoth a b && (decide (b.lo ≤ a.lo) && decide (a.hi ≤ b.hi))
def ivSqr (a : Iv) : Iv :=
  if ivRight a then (if ivHas a 0 then ivOut 0 (max (a.lo * a.lo) (a.hi * a.hi)) else ivOut (min (a.lo * a.lo) (a.hi * a.hi)) (max (a.lo * a.lo) (a.hi * a.hi))) else ivNone
/-- Of four pairs of ends: the least of what is rounded down, to the greatest of what is rounded up; None, if one of them is none. -/
def ivEnds (d u : Int → Int → Int × Bool) (a b : Iv) : Iv :=
  if ((d a.lo b.lo).2 && (u a.lo b.lo).2) && (((d a.lo b.hi).2 && (u a.lo b.hi).2) && (((d a.hi b.lo).2 && (u a.hi b.lo).2) && ((d a.hi b.hi).2 && (u a.hi b.hi).2))) then
    ivOf (min4 (d a.lo b.lo).1 (d a.lo b.hi).1 (d a.hi b.lo).1 (d a.hi b.hi).1) (max4 (u a.lo b.lo).1 (u a.lo b.hi).1 (u a.hi b.lo).1 (u a.hi b.hi).1)
  else ivNone
def ivDiv (a b : Iv) : Iv := if ivBoth a b && !ivHas b 0 then ivEnds (fun x y => divN x y false) (fun x y => divN x y true) a b else ivNone
def ivRoot (a : Iv) : Iv := if ivRight a && ((rootN a.lo false).2 && (rootN a.hi true).2) then ivOf (rootN a.lo false).1 (rootN a.hi true).1 else ivNone
def ivMeet (a b : Iv) : Iv := if ivBoth a b then ivOf (max a.lo b.lo) (min a.hi b.hi) else ivNone
/-- What one pair of ends makes: a quotient, or a product. -/
def eN (div : Bool) (x y : Int) (up : Bool) : Int × Bool := if div then divN x y up else mulN x y up

theorem right_iff {a : Iv} : ivRight a = true ↔ a.no = false ∧ (-1073741824 ≤ a.lo ∧ a.lo ≤ 1073741824) ∧ (-1073741824 ≤ a.hi ∧ a.hi ≤ 1073741824) ∧ a.lo ≤ a.hi := by
  simp [ivRight, isIn_iff]
theorem right_bd {a : Iv} (h : ivRight a = true) : (-1073741824 ≤ a.lo ∧ a.lo ≤ 1073741824) ∧ (-1073741824 ≤ a.hi ∧ a.hi ≤ 1073741824) ∧ a.lo ≤ a.hi := (right_iff.1 h).2
theorem both_iff {a b : Iv} : ivBoth a b = true ↔ ivRight a = true ∧ ivRight b = true := by simp [ivBoth]
theorem both_bd {a b : Iv} (h : ivBoth a b = true) : ((-1073741824 ≤ a.lo ∧ a.lo ≤ 1073741824) ∧ (-1073741824 ≤ a.hi ∧ a.hi ≤ 1073741824) ∧ a.lo ≤ a.hi) ∧ ((-1073741824 ≤ b.lo ∧ b.lo ≤ 1073741824) ∧ (-1073741824 ≤ b.hi ∧ b.hi ≤ 1073741824) ∧ b.lo ≤ b.hi) :=
  ⟨right_bd (both_iff.1 h).1, right_bd (both_iff.1 h).2⟩
theorem right_of {lo hi : Int} : ivRight ⟨lo, hi, false⟩ = true ↔ (-1073741824 ≤ lo ∧ lo ≤ 1073741824) ∧ (-1073741824 ≤ hi ∧ hi ≤ 1073741824) ∧ lo ≤ hi := by
  rw [right_iff]; simp
theorem of_yes {lo hi : Int} (h : (-1073741824 ≤ lo ∧ lo ≤ 1073741824) ∧ (-1073741824 ≤ hi ∧ hi ≤ 1073741824) ∧ lo ≤ hi) : ivOf lo hi = ⟨lo, hi, false⟩ := by
  unfold ivOf; rw [if_pos (right_of.2 h)]
theorem of_no {lo hi : Int} (h : ¬ ((-1073741824 ≤ lo ∧ lo ≤ 1073741824) ∧ (-1073741824 ≤ hi ∧ hi ≤ 1073741824) ∧ lo ≤ hi)) : ivOf lo hi = ivNone := by
  unfold ivOf; rw [if_neg (fun e => h (right_of.1 e))]
theorem right_none : ivRight ivNone = false := rfl
/-- Whatever Of tells is right, or None. -/
theorem of_cases (lo hi : Int) : (ivOf lo hi = ⟨lo, hi, false⟩ ∧ ((-1073741824 ≤ lo ∧ lo ≤ 1073741824) ∧ (-1073741824 ≤ hi ∧ hi ≤ 1073741824) ∧ lo ≤ hi)) ∨
    (ivOf lo hi = ivNone ∧ ¬ ((-1073741824 ≤ lo ∧ lo ≤ 1073741824) ∧ (-1073741824 ≤ hi ∧ hi ≤ 1073741824) ∧ lo ≤ hi)) := by
  by_cases h : (-1073741824 ≤ lo ∧ lo ≤ 1073741824) ∧ (-1073741824 ≤ hi ∧ hi ≤ 1073741824) ∧ lo ≤ hi
  · exact .inl ⟨of_yes h, h⟩
  · exact .inr ⟨of_no h, h⟩
theorem right_of_of {lo hi : Int} : ivRight (ivOf lo hi) = true ↔ (-1073741824 ≤ lo ∧ lo ≤ 1073741824) ∧ (-1073741824 ≤ hi ∧ hi ≤ 1073741824) ∧ lo ≤ hi := by
  rcases of_cases lo hi with ⟨e, h⟩ | ⟨e, h⟩
  · rw [e, right_of]
  · rw [e]; simp only [right_none]; simp [h]
theorem prod_in {a b : Iv} (h : ivBoth a b = true) : ∀ x y, (x = a.lo ∨ x = a.hi) → (y = b.lo ∨ y = b.hi) → -1152921504606846976 ≤ x * y ∧ x * y ≤ 1152921504606846976 := by
  have hb := both_bd h
  intro x y hx hy
  exact mul_bd (A := 1073741824) (B := 1073741824) (by omega) (by omega)
theorem told_bd (n : Int) : -1073741824 ≤ (told n).1 ∧ (told n).1 ≤ 1073741824 := by
  unfold told
  split
  · rename_i h; exact isIn_iff.1 h
  · exact ⟨by decide, by decide⟩
theorem divN_bd (a b : Int) (up : Bool) : -1073741824 ≤ (divN a b up).1 ∧ (divN a b up).1 ≤ 1073741824 := by
  unfold divN
  split
  · exact told_bd _
  · exact ⟨by decide, by decide⟩
theorem min_div (p q r x y : Int) (up : Bool) : min 1073741824 (min p (min q (min r (divN x y up).1))) = min p (min q (min r (divN x y up).1)) := by
  have := divN_bd x y up
  omega
theorem max_div (p q r x y : Int) (up : Bool) : max (-1073741824) (max p (max q (max r (divN x y up).1))) = max p (max q (max r (divN x y up).1)) := by
  have := divN_bd x y up
  omega

/-- The four pairs of ends, one behind the other, as the plain saying goes through them: the least, the greatest, whether all were numbers, of the first k. -/
def loTo (d : Int → Int → Int × Bool) (a b : Iv) : Nat → Int
  | 0 => 0
  | 1 => (d a.lo b.lo).1
  | 2 => min (d a.lo b.lo).1 (d a.hi b.lo).1
  | 3 => min (min (d a.lo b.lo).1 (d a.hi b.lo).1) (d a.lo b.hi).1
  | _ => min (min (min (d a.lo b.lo).1 (d a.hi b.lo).1) (d a.lo b.hi).1) (d a.hi b.hi).1
def hiTo (d : Int → Int → Int × Bool) (a b : Iv) : Nat → Int
  | 0 => 0
  | 1 => (d a.lo b.lo).1
  | 2 => max (d a.lo b.lo).1 (d a.hi b.lo).1
  | 3 => max (max (d a.lo b.lo).1 (d a.hi b.lo).1) (d a.lo b.hi).1
  | _ => max (max (max (d a.lo b.lo).1 (d a.hi b.lo).1) (d a.lo b.hi).1) (d a.hi b.hi).1
def okTo (d u : Int → Int → Int × Bool) (a b : Iv) : Nat → Bool
  | 0 => true
  | 1 => ((d a.lo b.lo).2 && (u a.lo b.lo).2)
  | 2 => ((d a.lo b.lo).2 && (u a.lo b.lo).2) && ((d a.hi b.lo).2 && (u a.hi b.lo).2)
  | 3 => (((d a.lo b.lo).2 && (u a.lo b.lo).2) && ((d a.hi b.lo).2 && (u a.hi b.lo).2)) && ((d a.lo b.hi).2 && (u a.lo b.hi).2)
  | _ => ((((d a.lo b.lo).2 && (u a.lo b.lo).2) && ((d a.hi b.lo).2 && (u a.hi b.lo).2)) && ((d a.lo b.hi).2 && (u a.lo b.hi).2)) && ((d a.hi b.hi).2 && (u a.hi b.hi).2)
theorem ends_yes {d u : Int → Int → Int × Bool} {a b : Iv} (h : okTo d u a b 4 = true) : ivEnds d u a b = ivOf (loTo d a b 4) (hiTo u a b 4) := by
  simp only [okTo, Bool.and_eq_true] at h
  obtain ⟨⟨⟨⟨h1, h2⟩, h3, h4⟩, h5, h6⟩, h7, h8⟩ := h
  unfold ivEnds
  simp only [h1, h2, h3, h4, h5, h6, h7, h8, Bool.and_true, if_true, loTo, hiTo, min4, max4]
  congr 1 <;> omega
theorem ends_no {d u : Int → Int → Int × Bool} {a b : Iv} {k : Nat} (hk : k ≤ 4) (h : okTo d u a b k = false) : ivEnds d u a b = ivNone := by
  unfold ivEnds
  rw [if_neg]
  intro hc
  simp only [Bool.and_eq_true] at hc
  obtain ⟨⟨h1, h2⟩, ⟨h5, h6⟩, ⟨h3, h4⟩, h7, h8⟩ := hc
  match k, hk with
  | 0, _ => simp [okTo] at h
  | 1, _ => simp [okTo, *] at h
  | 2, _ => simp [okTo, *] at h
  | 3, _ => simp [okTo, *] at h
  | 4, _ => simp [okTo, *] at h

theorem sub_eq (a b : Iv) : ivSub a b = if ivBoth a b then ivOf (a.lo - b.hi) (a.hi - b.lo) else ivNone := by
  unfold ivSub ivAdd
  by_cases hb : ivRight b = true
  · have h := right_bd hb
    have e : ivNeg b = ⟨-b.hi, -b.lo, false⟩ := by
      unfold ivNeg; rw [if_pos hb, of_yes (by omega)]
    have e2 : ivBoth a (ivNeg b) = ivBoth a b := by
      unfold ivBoth; rw [e, hb, right_of.2 (by omega)]
    rw [e2, e]
    split
    · show ivOf (a.lo + -b.hi) (a.hi + -b.lo) = _
      rw [← Int.sub_eq_add_neg, ← Int.sub_eq_add_neg]
    · rfl
  · have e : ivNeg b = ivNone := by unfold ivNeg; rw [if_neg hb]
    have e2 : ivBoth a (ivNeg b) = false := by unfold ivBoth; rw [e, right_none]; simp
    have e3 : ivBoth a b = false := by
      cases h : ivBoth a b
      · rfl
      · exact absurd (both_iff.1 h).2 hb
    rw [e2, e3]
    rfl
/-- The root of a number of steps that is not below 0. -/
theorem rootN_yes {n : Int} (h : 0 ≤ n ∧ n ≤ 1073741824) (up : Bool) : rootN n up = (upRoot (n * 65536) up, true) ∧ 0 ≤ upRoot (n * 65536) up ∧ upRoot (n * 65536) up ≤ 8388609 := by
  have hi : isIn n = true := isIn_iff.2 (by omega)
  have h1 := in_root hi (by omega)
  have hb : 0 ≤ upRoot (n * 65536) up ∧ upRoot (n * 65536) up ≤ 8388609 := by
    unfold upRoot; split <;> omega
  refine ⟨?_, hb⟩
  unfold rootN
  rw [hi, show decide (n < 0) = false by simp; omega]
  show told _ = _
  unfold told
  rw [if_pos (isIn_iff.2 (by omega))]
theorem rootN_no {n : Int} (h : n < 0) (up : Bool) : rootN n up = (0, false) := by
  unfold rootN
  rw [show decide (n < 0) = true by simp; omega]
  simp
theorem root_eq (a : Iv) : ivRoot a = if ivRight a && !decide (a.lo < 0) then ivOf (rootN a.lo false).1 (rootN a.hi true).1 else ivNone := by
  unfold ivRoot
  cases h : ivRight a
  · rfl
  · have hb := right_bd h
    by_cases h0 : a.lo < 0
    · rw [rootN_no h0]
      simp [h0]
    · rw [(rootN_yes (n := a.lo) (by omega) false).1, (rootN_yes (n := a.hi) (by omega) true).1]
      simp [h0]

end Go.Proofs.Ytekhhekkepijoaa

namespace Go.Proofs.Ytekhhekkepijoaa
set_option linter.unusedVariables false

theorem fdiv_one (n : Int) : n.fdiv 65536 = n / 65536 := Int.fdiv_eq_ediv_of_nonneg _ (by omega)
theorem told_in {n : Int} (h : -1073741824 ≤ n ∧ n ≤ 1073741824) : told n = (n, true) := by
  unfold told
  rw [if_pos (isIn_iff.2 h)]
theorem told_out {n : Int} (h : ¬ (-1073741824 ≤ n ∧ n ≤ 1073741824)) : told n = (0, false) := by
  unfold told
  rw [if_neg (fun e => h (isIn_iff.1 e))]
theorem mulN_in {x y : Int} (up : Bool) (hx : -1073741824 ≤ x ∧ x ≤ 1073741824) (hy : -1073741824 ≤ y ∧ y ≤ 1073741824) : mulN x y up = told (quo (x * y) 65536 up) := by
  unfold mulN
  rw [isIn_iff.2 hx, isIn_iff.2 hy]
  rfl
/-- Rounded outward: the least of four quotients by One is that of the least; none of them is a number, if one of them is none. -/
theorem out_four (p q r s : Int) : ivOut (min4 p q r s) (max4 p q r s) =
    if ((told (p / 65536)).2 && (told (-((-p) / 65536))).2) && (((told (q / 65536)).2 && (told (-((-q) / 65536))).2) && (((told (r / 65536)).2 && (told (-((-r) / 65536))).2) && ((told (s / 65536)).2 && (told (-((-s) / 65536))).2))) then
      ivOf (min4 (told (p / 65536)).1 (told (q / 65536)).1 (told (r / 65536)).1 (told (s / 65536)).1) (max4 (told (-((-p) / 65536))).1 (told (-((-q) / 65536))).1 (told (-((-r) / 65536))).1 (told (-((-s) / 65536))).1)
    else ivNone := by
  unfold ivOut
  rw [fdiv_one, fdiv_one]
  by_cases h : (-1073741824 ≤ p / 65536 ∧ -((-p) / 65536) ≤ 1073741824) ∧ (-1073741824 ≤ q / 65536 ∧ -((-q) / 65536) ≤ 1073741824) ∧ (-1073741824 ≤ r / 65536 ∧ -((-r) / 65536) ≤ 1073741824) ∧ (-1073741824 ≤ s / 65536 ∧ -((-s) / 65536) ≤ 1073741824)
  · rw [told_in (n := p / 65536) (by omega), told_in (n := -((-p) / 65536)) (by omega), told_in (n := q / 65536) (by omega), told_in (n := -((-q) / 65536)) (by omega),
      told_in (n := r / 65536) (by omega), told_in (n := -((-r) / 65536)) (by omega), told_in (n := s / 65536) (by omega), told_in (n := -((-s) / 65536)) (by omega)]
    show _ = ivOf _ _
    congr 1
    · show min p (min q (min r s)) / 65536 = min (p / 65536) (min (q / 65536) (min (r / 65536) (s / 65536)))
      omega
    · show -((-(max p (max q (max r s)))) / 65536) = max (-((-p) / 65536)) (max (-((-q) / 65536)) (max (-((-r) / 65536)) (-((-s) / 65536))))
      omega
  · have e : (((told (p / 65536)).2 && (told (-((-p) / 65536))).2) && (((told (q / 65536)).2 && (told (-((-q) / 65536))).2) && (((told (r / 65536)).2 && (told (-((-r) / 65536))).2) && ((told (s / 65536)).2 && (told (-((-s) / 65536))).2)))) = false := by
      rw [Bool.eq_false_iff]
      intro hc
      simp only [Bool.and_eq_true] at hc
      have tw : ∀ n, (told n).2 = true → -1073741824 ≤ n ∧ n ≤ 1073741824 := by
        intro n hn
        by_cases h1 : -1073741824 ≤ n ∧ n ≤ 1073741824
        · exact h1
        · rw [told_out h1] at hn; simp at hn
      obtain ⟨⟨h1, h2⟩, ⟨h3, h4⟩, ⟨h5, h6⟩, h7, h8⟩ := hc
      have := tw _ h1
      have := tw _ h2
      have := tw _ h3
      have := tw _ h4
      have := tw _ h5
      have := tw _ h6
      have := tw _ h7
      have := tw _ h8
      omega
    rw [e]
    show _ = ivNone
    apply of_no
    show ¬ ((-1073741824 ≤ min p (min q (min r s)) / 65536 ∧ _) ∧ (_ ∧ -((-(max p (max q (max r s)))) / 65536) ≤ 1073741824) ∧ _)
    omega
theorem mul_eq (a b : Iv) : ivMul a b = if ivBoth a b then ivEnds (fun x y => mulN x y false) (fun x y => mulN x y true) a b else ivNone := by
  unfold ivMul
  by_cases h : ivBoth a b = true
  · rw [if_pos h, if_pos h]
    have hb := both_bd h
    have m1 := mulN_in (x := a.lo) (y := b.lo) false (by omega) (by omega)
    have m2 := mulN_in (x := a.lo) (y := b.lo) true (by omega) (by omega)
    have m3 := mulN_in (x := a.lo) (y := b.hi) false (by omega) (by omega)
    have m4 := mulN_in (x := a.lo) (y := b.hi) true (by omega) (by omega)
    have m5 := mulN_in (x := a.hi) (y := b.lo) false (by omega) (by omega)
    have m6 := mulN_in (x := a.hi) (y := b.lo) true (by omega) (by omega)
    have m7 := mulN_in (x := a.hi) (y := b.hi) false (by omega) (by omega)
    have m8 := mulN_in (x := a.hi) (y := b.hi) true (by omega) (by omega)
    simp only [ivEnds, m1, m2, m3, m4, m5, m6, m7, m8, quo_dn, quo_up, fdiv_one]
    exact out_four _ _ _ _
  · rw [if_neg h, if_neg h]
theorem abs_sq (x : Int) : max x (-x) * max x (-x) = x * x := by
  by_cases h : 0 ≤ x
  · rw [Int.max_eq_left (by omega)]
  · rw [Int.max_eq_right (by omega)]
    rw [Int.neg_mul_neg]
theorem sq_le {x y : Int} (hx : 0 ≤ x) (h : x ≤ y) : x * x ≤ y * y := Int.mul_le_mul h h hx (by omega)
/-- The nearest to 0, the farthest from it, of what lies between two ends. -/
def ivNear (a : Iv) : Int := min (max a.lo (-a.lo)) (max a.hi (-a.hi))
def ivFar (a : Iv) : Int := max a.lo (max (-a.lo) (max a.hi (-a.hi)))
theorem near_sq (a : Iv) : ivNear a * ivNear a = min (a.lo * a.lo) (a.hi * a.hi) := by
  have h1 := abs_sq a.lo
  have h2 := abs_sq a.hi
  unfold ivNear
  by_cases h : max a.lo (-a.lo) ≤ max a.hi (-a.hi)
  · have := sq_le (by omega) h
    rw [Int.min_eq_left h, Int.min_eq_left (by omega)]
    exact h1
  · have := sq_le (x := max a.hi (-a.hi)) (y := max a.lo (-a.lo)) (by omega) (by omega)
    rw [Int.min_eq_right (by omega), Int.min_eq_right (by omega)]
    exact h2
theorem far_sq (a : Iv) : ivFar a * ivFar a = max (a.lo * a.lo) (a.hi * a.hi) := by
  have h1 := abs_sq a.lo
  have h2 := abs_sq a.hi
  by_cases h : max a.lo (-a.lo) ≤ max a.hi (-a.hi)
  · have h3 := sq_le (by omega) h
    have e : ivFar a = max a.hi (-a.hi) := by unfold ivFar; omega
    rw [e, h2]
    omega
  · have h3 := sq_le (x := max a.hi (-a.hi)) (y := max a.lo (-a.lo)) (by omega) (by omega)
    have e : ivFar a = max a.lo (-a.lo) := by unfold ivFar; omega
    rw [e, h1]
    omega
theorem near_bd {a : Iv} (h : ivRight a = true) : (0 ≤ ivNear a ∧ ivNear a ≤ 1073741824) ∧ 0 ≤ ivFar a ∧ ivFar a ≤ 1073741824 := by
  have := right_bd h
  unfold ivNear ivFar
  omega
theorem sq_out (n f : Int) (h : 0 ≤ n ∧ n ≤ f) : ivOut n f = if (told (-((-f) / 65536))).2 then ivOf (told (n / 65536)).1 (told (-((-f) / 65536))).1 else ivNone := by
  unfold ivOut
  rw [fdiv_one, fdiv_one]
  by_cases hf : -((-f) / 65536) ≤ 1073741824
  · rw [told_in (n := -((-f) / 65536)) (by omega), told_in (n := n / 65536) (by omega)]
    rfl
  · rw [told_out (n := -((-f) / 65536)) (by omega), of_no (by omega)]
    rfl
theorem sqr_eq (a : Iv) : ivSqr a = if ivRight a then (if (mulN (ivFar a) (ivFar a) true).2 then (if ivHas a 0 then ivOf (mulN 0 0 false).1 (mulN (ivFar a) (ivFar a) true).1 else ivOf (mulN (ivNear a) (ivNear a) false).1 (mulN (ivFar a) (ivFar a) true).1) else ivNone) else ivNone := by
  unfold ivSqr
  by_cases h : ivRight a = true
  · rw [if_pos h, if_pos h]
    obtain ⟨⟨n1, n2⟩, f1, f2⟩ := near_bd h
    have e1 : mulN 0 0 false = told (0 / 65536) := by decide
    have l1 := sq_le f1 f2
    have s1 : 0 ≤ a.lo * a.lo := by rw [← abs_sq]; exact Int.mul_nonneg (by omega) (by omega)
    have s2 : 0 ≤ a.hi * a.hi := by rw [← abs_sq]; exact Int.mul_nonneg (by omega) (by omega)
    rw [mulN_in (x := ivFar a) (y := ivFar a) true (by omega) (by omega), mulN_in (x := ivNear a) (y := ivNear a) false (by omega) (by omega), e1, near_sq, far_sq, quo_dn, quo_up, fdiv_one, fdiv_one]
    rw [sq_out 0 _ (by omega), sq_out _ _ (show 0 ≤ min (a.lo * a.lo) (a.hi * a.hi) ∧ min (a.lo * a.lo) (a.hi * a.hi) ≤ max (a.lo * a.lo) (a.hi * a.hi) by omega)]
    split <;> split <;> rfl
  · rw [if_neg h, if_neg h]

/-- The intervals that are handed in, of raw numbers. -/
def within (n a b : Int) : Int := max a (min b n)
def hWide (x w : Int) : Iv := ⟨within x (-1073741824) 1073741824, min 1073741824 (within x (-1073741824) 1073741824 + w), false⟩
def hIv (n w : Int) : Iv :=
  if w % 12 = 0 then ⟨hnum n, hnum (w.tdiv 12), false⟩ else if w % 12 = 1 then ⟨hnum n, hnum n, w.tdiv 12 % 5 == 4⟩ else if w % 12 = 2 ∨ w % 12 = 3 then ⟨hnum n, hnum n, false⟩
  else hWide (hnum n) (w.tdiv 12 % 9000)
def hIn (a : Iv) (x y : Int) : Iv :=
  if ivRight a then ⟨a.lo + x % (a.hi - a.lo + 1), a.lo + x % (a.hi - a.lo + 1) + y % (a.hi - (a.lo + x % (a.hi - a.lo + 1)) + 1), false⟩ else a
theorem within_bd (n a b : Int) (h : a ≤ b) : a ≤ within n a b ∧ within n a b ≤ b := by
  unfold within
  omega
theorem hWide_right {x w : Int} (h : 0 ≤ w) : ivRight (hWide x w) = true := by
  have := within_bd x (-1073741824) 1073741824 (by omega)
  unfold hWide
  rw [right_of]
  omega
theorem hIn_right {a : Iv} (x y : Int) (h : ivRight a = true) : ivRight (hIn a x y) = true ∧ a.lo ≤ (hIn a x y).lo ∧ (hIn a x y).hi ≤ a.hi ∧ (hIn a x y).lo ≤ (hIn a x y).hi := by
  have hb := right_bd h
  have h1 := Int.emod_nonneg x (show a.hi - a.lo + 1 ≠ 0 by omega)
  have h2 := Int.emod_lt_of_pos x (show 0 < a.hi - a.lo + 1 by omega)
  unfold hIn
  rw [if_pos h]
  generalize x % (a.hi - a.lo + 1) = u at *
  have h3 := Int.emod_nonneg y (show a.hi - (a.lo + u) + 1 ≠ 0 by omega)
  have h4 := Int.emod_lt_of_pos y (show 0 < a.hi - (a.lo + u) + 1 by omega)
  generalize y % (a.hi - (a.lo + u) + 1) = v at *
  rw [right_of]
  dsimp only
  omega

end Go.Proofs.Ytekhhekkepijoaa

namespace Go.Proofs.Ytekhhekkepijoaa
set_option linter.unusedVariables false

/-- The answer of less lies in the answer of more, if that is one. -/
def ivLess (a b : Iv) : Bool := !ivRight b || ivInside a b
theorem inside_iff {a b : Iv} : ivInside a b = true ↔ ivRight a = true ∧ ivRight b = true ∧ b.lo ≤ a.lo ∧ a.hi ≤ b.hi := by
  simp [ivInside, ivBoth, and_assoc]
theorem less_of {lo hi lo' hi' : Int} (h : (-1073741824 ≤ lo ∧ lo ≤ 1073741824) ∧ (-1073741824 ≤ hi ∧ hi ≤ 1073741824) ∧ lo ≤ hi → lo ≤ lo' ∧ lo' ≤ hi' ∧ hi' ≤ hi) : ivLess (ivOf lo' hi') (ivOf lo hi) = true := by
  unfold ivLess
  rcases of_cases lo hi with ⟨e, h1⟩ | ⟨e, h1⟩
  · have h2 := h h1
    rw [e, of_yes (lo := lo') (hi := hi') (by omega)]
    have : ivInside ⟨lo', hi', false⟩ ⟨lo, hi, false⟩ = true := inside_iff.2 ⟨right_of.2 (by omega), right_of.2 (by omega), h2.1, h2.2.2⟩
    rw [this]
    simp
  · rw [e, right_none]
    rfl
/-- p is less of x. -/
def Part (p x : Iv) : Prop := ivRight p = true ∧ ivRight x = true ∧ x.lo ≤ p.lo ∧ p.hi ≤ x.hi
theorem hIn_part {a : Iv} (x y : Int) (h : ivRight a = true) : Part (hIn a x y) a :=
  ⟨(hIn_right x y h).1, h, (hIn_right x y h).2.1, (hIn_right x y h).2.2.1⟩
theorem part_bd {p x : Iv} (h : Part p x) : ((-1073741824 ≤ p.lo ∧ p.lo ≤ 1073741824) ∧ (-1073741824 ≤ p.hi ∧ p.hi ≤ 1073741824) ∧ p.lo ≤ p.hi) ∧ ((-1073741824 ≤ x.lo ∧ x.lo ≤ 1073741824) ∧ (-1073741824 ≤ x.hi ∧ x.hi ≤ 1073741824) ∧ x.lo ≤ x.hi) ∧ x.lo ≤ p.lo ∧ p.hi ≤ x.hi :=
  ⟨right_bd h.1, right_bd h.2.1, h.2.2⟩
theorem part_both {p q x y : Iv} (h : Part p x) (k : Part q y) : ivBoth p q = true ∧ ivBoth x y = true := ⟨both_iff.2 ⟨h.1, k.1⟩, both_iff.2 ⟨h.2.1, k.2.1⟩⟩
theorem less_add {p q x y : Iv} (h : Part p x) (k : Part q y) : ivLess (ivAdd p q) (ivAdd x y) = true := by
  have b := part_bd h
  have c := part_bd k
  unfold ivAdd
  rw [if_pos (part_both h k).1, if_pos (part_both h k).2]
  exact less_of (by omega)
theorem less_neg {p x : Iv} (h : Part p x) : ivLess (ivNeg p) (ivNeg x) = true := by
  have b := part_bd h
  unfold ivNeg
  rw [if_pos h.1, if_pos h.2.1]
  exact less_of (by omega)
/-- A product lies between those of the ends. -/
theorem mul_between {l u h : Int} (v : Int) (h1 : l ≤ u) (h2 : u ≤ h) : min (l * v) (h * v) ≤ u * v ∧ u * v ≤ max (l * v) (h * v) := by
  by_cases hv : 0 ≤ v
  · have := Int.mul_le_mul_of_nonneg_right h1 hv
    have := Int.mul_le_mul_of_nonneg_right h2 hv
    omega
  · have := Int.mul_le_mul_of_nonpos_right h1 (show v ≤ 0 by omega)
    have := Int.mul_le_mul_of_nonpos_right h2 (show v ≤ 0 by omega)
    omega
theorem mul_between2 {l h u l2 h2 v : Int} (a : l ≤ u) (b : u ≤ h) (c : l2 ≤ v) (d : v ≤ h2) :
    min4 (l * l2) (l * h2) (h * l2) (h * h2) ≤ u * v ∧ u * v ≤ max4 (l * l2) (l * h2) (h * l2) (h * h2) := by
  have e1 := mul_between v a b
  have e2 := mul_between l c d
  have e3 := mul_between h c d
  rw [Int.mul_comm l2 l, Int.mul_comm h2 l, Int.mul_comm v l] at e2
  rw [Int.mul_comm l2 h, Int.mul_comm h2 h, Int.mul_comm v h] at e3
  unfold min4 max4
  omega
theorem less_out {lo hi lo' hi' : Int} (h : lo ≤ lo' ∧ lo' ≤ hi' ∧ hi' ≤ hi) : ivLess (ivOut lo' hi') (ivOut lo hi) = true := by
  unfold ivOut
  rw [fdiv_one, fdiv_one, fdiv_one, fdiv_one]
  exact less_of (by omega)
theorem less_mul {p q x y : Iv} (h : Part p x) (k : Part q y) : ivLess (ivMul p q) (ivMul x y) = true := by
  have b := part_bd h
  have c := part_bd k
  unfold ivMul
  rw [if_pos (part_both h k).1, if_pos (part_both h k).2]
  have m1 := mul_between2 (l := x.lo) (h := x.hi) (u := p.lo) (l2 := y.lo) (h2 := y.hi) (v := q.lo) (by omega) (by omega) (by omega) (by omega)
  have m2 := mul_between2 (l := x.lo) (h := x.hi) (u := p.lo) (l2 := y.lo) (h2 := y.hi) (v := q.hi) (by omega) (by omega) (by omega) (by omega)
  have m3 := mul_between2 (l := x.lo) (h := x.hi) (u := p.hi) (l2 := y.lo) (h2 := y.hi) (v := q.lo) (by omega) (by omega) (by omega) (by omega)
  have m4 := mul_between2 (l := x.lo) (h := x.hi) (u := p.hi) (l2 := y.lo) (h2 := y.hi) (v := q.hi) (by omega) (by omega) (by omega) (by omega)
  refine less_out ?_
  generalize min4 (x.lo * y.lo) (x.lo * y.hi) (x.hi * y.lo) (x.hi * y.hi) = M at *
  generalize max4 (x.lo * y.lo) (x.lo * y.hi) (x.hi * y.lo) (x.hi * y.hi) = N at *
  unfold min4 max4
  omega
theorem sq_between {l u h : Int} (a : l ≤ u) (b : u ≤ h) : u * u ≤ max (l * l) (h * h) ∧ (¬ (l ≤ 0 ∧ 0 ≤ h) → min (l * l) (h * h) ≤ u * u) ∧ 0 ≤ u * u := by
  have n : 0 ≤ u * u := by rw [← abs_sq]; exact Int.mul_nonneg (by omega) (by omega)
  by_cases hu : 0 ≤ u
  · have h1 := sq_le hu b
    by_cases hl : 0 ≤ l
    · have h2 := sq_le hl a
      omega
    · omega
  · have e1 : u * u = (-u) * (-u) := (Int.neg_mul_neg u u).symm
    have e2 : l * l = (-l) * (-l) := (Int.neg_mul_neg l l).symm
    have e3 : h * h = (-h) * (-h) := (Int.neg_mul_neg h h).symm
    have h1 := sq_le (x := -u) (y := -l) (by omega) (by omega)
    rw [← e1, ← e2] at h1
    by_cases hh : h ≤ 0
    · have h2 := sq_le (x := -h) (y := -u) (by omega) (by omega)
      rw [← e1, ← e3] at h2
      omega
    · omega
theorem has_zero {a : Iv} (h : ivRight a = true) : ivHas a 0 = decide (a.lo ≤ 0 ∧ 0 ≤ a.hi) := by
  unfold ivHas
  rw [h]
  simp
theorem less_sqr {p x : Iv} (h : Part p x) : ivLess (ivSqr p) (ivSqr x) = true := by
  have b := part_bd h
  unfold ivSqr
  rw [if_pos h.1, if_pos h.2.1, has_zero h.1, has_zero h.2.1]
  have s1 := sq_between (l := x.lo) (u := p.lo) (h := x.hi) (by omega) (by omega)
  have s2 := sq_between (l := x.lo) (u := p.hi) (h := x.hi) (by omega) (by omega)
  by_cases h1 : x.lo ≤ 0 ∧ 0 ≤ x.hi
  · rw [if_pos (c := decide (x.lo ≤ 0 ∧ 0 ≤ x.hi) = true) (by simpa using h1)]
    split
    · exact less_out (by omega)
    · exact less_out (by omega)
  · rw [if_neg (c := decide (x.lo ≤ 0 ∧ 0 ≤ x.hi) = true) (by simpa using h1), if_neg (by simp; omega)]
    have t1 := s1.2.1 h1
    have t2 := s2.2.1 h1
    exact less_out (by omega)
theorem flRoot_mono {n m : Int} (h0 : 0 ≤ n) (h : n ≤ m) (h1 : m < 281474976710656) : flRoot n ≤ flRoot m := by
  have ⟨a, b, c⟩ := flRoot_bd n h0 (by omega)
  have ⟨d, e, f⟩ := flRoot_bd m (by omega) h1
  exact flRoot_le n (flRoot m) h0 (by omega) d (by omega)
theorem upRoot_mono {n m : Int} (h0 : 0 ≤ n) (h : n ≤ m) (h1 : m < 281474976710656) : upRoot n true ≤ upRoot m true := by
  have ⟨a, b, c⟩ := flRoot_bd n h0 (by omega)
  have ⟨d, e, f⟩ := flRoot_bd m (by omega) h1
  have g := flRoot_mono h0 h h1
  unfold upRoot
  by_cases hn : flRoot n * flRoot n = n <;> by_cases hm : flRoot m * flRoot m = m
  · simp [hn, hm]; exact g
  · simp [hn, hm]; omega
  · have : flRoot n < flRoot m := by
      by_cases h2 : flRoot n < flRoot m
      · exact h2
      · have h3 : flRoot n = flRoot m := by omega
        rw [h3] at hn b
        omega
    simp [hn, hm]
    omega
  · simp [hn, hm]; omega
theorem up_ge (n : Int) : flRoot n ≤ upRoot n true ∧ upRoot n true ≤ flRoot n + 1 ∧ upRoot n false = flRoot n := by
  unfold upRoot
  refine ⟨?_, ?_, by simp⟩
  · split <;> omega
  · split <;> omega
theorem less_root {p x : Iv} (h : Part p x) : ivLess (ivRoot p) (ivRoot x) = true := by
  have b := part_bd h
  rw [root_eq, root_eq, h.1, h.2.1]
  by_cases h0 : x.lo < 0
  · simp only [h0]
    simp [ivLess, right_none]
  · have h1 : ¬ p.lo < 0 := by omega
    simp only [h0, h1]
    rw [(rootN_yes (n := x.lo) (by omega) false).1, (rootN_yes (n := x.hi) (by omega) true).1, (rootN_yes (n := p.lo) (by omega) false).1, (rootN_yes (n := p.hi) (by omega) true).1]
    have r1 := flRoot_mono (n := x.lo * 65536) (m := p.lo * 65536) (by omega) (by omega) (by omega)
    have r2 := upRoot_mono (n := p.hi * 65536) (m := x.hi * 65536) (by omega) (by omega) (by omega)
    have r3 := flRoot_mono (n := p.lo * 65536) (m := p.hi * 65536) (by omega) (by omega) (by omega)
    have u1 := up_ge (x.lo * 65536)
    have u2 := up_ge (p.lo * 65536)
    have u3 := up_ge (p.hi * 65536)
    exact less_of (by simp only; omega)

end Go.Proofs.Ytekhhekkepijoaa

namespace Go.Proofs.Ytekhhekkepijoaa
set_option linter.unusedVariables false

/-- The quotient of two numbers of steps, rounded down, rounded up. -/
def qF (x y : Int) : Int := (x * 65536).fdiv y
def qC (x y : Int) : Int := -((-(x * 65536)).fdiv y)
theorem fl_pos {k n v : Int} (h : 0 < v) : k ≤ n.fdiv v ↔ k * v ≤ n := by
  rw [Int.fdiv_eq_ediv_of_nonneg _ (by omega)]
  exact Int.le_ediv_iff_mul_le h
theorem fl_neg {k n v : Int} (h : v < 0) : k ≤ n.fdiv v ↔ n ≤ k * v := by
  rw [← Int.neg_fdiv_neg, fl_pos (by omega), Int.mul_neg]
  omega
theorem ce_pos {k n v : Int} (h : 0 < v) : -((-n).fdiv v) ≤ k ↔ n ≤ k * v := by
  have := fl_pos (k := -k) (n := -n) h
  rw [Int.neg_mul] at this
  omega
theorem ce_neg {k n v : Int} (h : v < 0) : -((-n).fdiv v) ≤ k ↔ k * v ≤ n := by
  have := fl_neg (k := -k) (n := -n) h
  rw [Int.neg_mul] at this
  omega
theorem fl_le_ce (n : Int) {v : Int} (h : v ≠ 0) : n.fdiv v ≤ -((-n).fdiv v) := by
  rw [ceil_eq n v h]
  split <;> omega
theorem q_between {xl xh yl yh u v m M : Int} (hx : xl ≤ u ∧ u ≤ xh) (hy : yl ≤ v ∧ v ≤ yh) (h0 : ¬ (yl ≤ 0 ∧ 0 ≤ yh))
    (hm : m ≤ qF xl yl ∧ m ≤ qF xl yh ∧ m ≤ qF xh yl ∧ m ≤ qF xh yh) (hM : qC xl yl ≤ M ∧ qC xl yh ≤ M ∧ qC xh yl ≤ M ∧ qC xh yh ≤ M) : m ≤ qF u v ∧ qF u v ≤ qC u v ∧ qC u v ≤ M := by
  have t1 := mul_between m hy.1 hy.2
  have t2 := mul_between M hy.1 hy.2
  rw [Int.mul_comm yl, Int.mul_comm yh, Int.mul_comm v] at t1 t2
  unfold qF qC at *
  by_cases hp : 0 < yl
  · simp only [fl_pos hp, fl_pos (show 0 < yh by omega)] at hm
    simp only [ce_pos hp, ce_pos (show 0 < yh by omega)] at hM
    refine ⟨(fl_pos (by omega)).2 (by omega), fl_le_ce _ (by omega), (ce_pos (by omega)).2 (by omega)⟩
  · simp only [fl_neg (show yl < 0 by omega), fl_neg (show yh < 0 by omega)] at hm
    simp only [ce_neg (show yl < 0 by omega), ce_neg (show yh < 0 by omega)] at hM
    refine ⟨(fl_neg (by omega)).2 (by omega), fl_le_ce _ (by omega), (ce_neg (by omega)).2 (by omega)⟩
theorem divN_in {x y : Int} (hx : -1073741824 ≤ x ∧ x ≤ 1073741824) (hy : -1073741824 ≤ y ∧ y ≤ 1073741824) (h0 : y ≠ 0) : divN x y false = told (qF x y) ∧ divN x y true = told (qC x y) := by
  unfold divN
  rw [isIn_iff.2 hx, isIn_iff.2 hy, show (y == 0) = false by simpa using h0]
  exact ⟨rfl, rfl⟩
theorem told_ok {n : Int} : (told n).2 = true ↔ -1073741824 ≤ n ∧ n ≤ 1073741824 := by
  by_cases h : -1073741824 ≤ n ∧ n ≤ 1073741824
  · rw [told_in h]; simp [h]
  · rw [told_out h]; simp [h]
/-- What lies off 0. -/
def Off (y : Iv) : Prop := ¬ (y.lo ≤ 0 ∧ 0 ≤ y.hi)
theorem div_form {x y : Iv} (hb : ivBoth x y = true) (h0 : Off y) : ivDiv x y =
    if (((told (qF x.lo y.lo)).2 && (told (qC x.lo y.lo)).2) && (((told (qF x.lo y.hi)).2 && (told (qC x.lo y.hi)).2) && (((told (qF x.hi y.lo)).2 && (told (qC x.hi y.lo)).2) && ((told (qF x.hi y.hi)).2 && (told (qC x.hi y.hi)).2)))) then
      ivOf (min4 (told (qF x.lo y.lo)).1 (told (qF x.lo y.hi)).1 (told (qF x.hi y.lo)).1 (told (qF x.hi y.hi)).1) (max4 (told (qC x.lo y.lo)).1 (told (qC x.lo y.hi)).1 (told (qC x.hi y.lo)).1 (told (qC x.hi y.hi)).1)
    else ivNone := by
  have b := both_bd hb
  unfold Off at h0
  unfold ivDiv
  rw [hb, has_zero (both_iff.1 hb).2, show decide (y.lo ≤ 0 ∧ 0 ≤ y.hi) = false by simpa using h0]
  have d1 := divN_in (x := x.lo) (y := y.lo) (by omega) (by omega) (by omega)
  have d2 := divN_in (x := x.lo) (y := y.hi) (by omega) (by omega) (by omega)
  have d3 := divN_in (x := x.hi) (y := y.lo) (by omega) (by omega) (by omega)
  have d4 := divN_in (x := x.hi) (y := y.hi) (by omega) (by omega) (by omega)
  simp only [ivEnds, d1.1, d1.2, d2.1, d2.2, d3.1, d3.2, d4.1, d4.2]
  rfl
theorem div_yes {x y : Iv} (hb : ivBoth x y = true) (h0 : Off y)
    (h : (-1073741824 ≤ qF x.lo y.lo ∧ qC x.lo y.lo ≤ 1073741824) ∧ (-1073741824 ≤ qF x.lo y.hi ∧ qC x.lo y.hi ≤ 1073741824) ∧ (-1073741824 ≤ qF x.hi y.lo ∧ qC x.hi y.lo ≤ 1073741824) ∧ (-1073741824 ≤ qF x.hi y.hi ∧ qC x.hi y.hi ≤ 1073741824)) :
    ivDiv x y = ivOf (min4 (qF x.lo y.lo) (qF x.lo y.hi) (qF x.hi y.lo) (qF x.hi y.hi)) (max4 (qC x.lo y.lo) (qC x.lo y.hi) (qC x.hi y.lo) (qC x.hi y.hi)) := by
  rw [div_form hb h0]
  unfold Off at h0
  have b := both_bd hb
  have f1 : qF x.lo y.lo ≤ qC x.lo y.lo := fl_le_ce _ (by omega)
  have f2 : qF x.lo y.hi ≤ qC x.lo y.hi := fl_le_ce _ (by omega)
  have f3 : qF x.hi y.lo ≤ qC x.hi y.lo := fl_le_ce _ (by omega)
  have f4 : qF x.hi y.hi ≤ qC x.hi y.hi := fl_le_ce _ (by omega)
  rw [told_in (n := qF x.lo y.lo) (by omega), told_in (n := qC x.lo y.lo) (by omega), told_in (n := qF x.lo y.hi) (by omega), told_in (n := qC x.lo y.hi) (by omega),
    told_in (n := qF x.hi y.lo) (by omega), told_in (n := qC x.hi y.lo) (by omega), told_in (n := qF x.hi y.hi) (by omega), told_in (n := qC x.hi y.hi) (by omega)]
  rfl
theorem div_right {x y : Iv} (h : ivRight (ivDiv x y) = true) : ivBoth x y = true ∧ Off y ∧
    ((-1073741824 ≤ qF x.lo y.lo ∧ qC x.lo y.lo ≤ 1073741824) ∧ (-1073741824 ≤ qF x.lo y.hi ∧ qC x.lo y.hi ≤ 1073741824) ∧ (-1073741824 ≤ qF x.hi y.lo ∧ qC x.hi y.lo ≤ 1073741824) ∧ (-1073741824 ≤ qF x.hi y.hi ∧ qC x.hi y.hi ≤ 1073741824)) := by
  have hb : ivBoth x y = true := by
    cases hb : ivBoth x y
    · unfold ivDiv at h
      rw [hb] at h
      simp [right_none] at h
    · rfl
  have h0 : Off y := by
    intro h0
    unfold ivDiv at h
    rw [hb, has_zero (both_iff.1 hb).2, show decide (y.lo ≤ 0 ∧ 0 ≤ y.hi) = true by simpa using h0] at h
    simp [right_none] at h
  refine ⟨hb, h0, ?_⟩
  rw [div_form hb h0] at h
  split at h
  · rename_i hc
    simp only [Bool.and_eq_true, told_ok] at hc
    omega
  · rw [right_none] at h
    cases h
/-- The exact quotient of numbers in two intervals lies in the answer. -/
theorem div_encloses {x y : Iv} {p q : Int} (h : ivRight (ivDiv x y) = true) (hp : x.lo ≤ p ∧ p ≤ x.hi) (hq : y.lo ≤ q ∧ q ≤ y.hi) :
    (0 < q ∧ (ivDiv x y).lo * q ≤ p * 65536 ∧ p * 65536 ≤ (ivDiv x y).hi * q) ∨ (q < 0 ∧ p * 65536 ≤ (ivDiv x y).lo * q ∧ (ivDiv x y).hi * q ≤ p * 65536) := by
  obtain ⟨hb, h0, hr⟩ := div_right h
  have e := div_yes hb h0 hr
  rw [e] at h ⊢
  rw [of_yes (right_of_of.1 h)]
  have t := q_between (m := min4 (qF x.lo y.lo) (qF x.lo y.hi) (qF x.hi y.lo) (qF x.hi y.hi)) (M := max4 (qC x.lo y.lo) (qC x.lo y.hi) (qC x.hi y.lo) (qC x.hi y.hi)) hp hq h0 (by unfold min4; omega) (by unfold max4; omega)
  dsimp only
  generalize min4 (qF x.lo y.lo) (qF x.lo y.hi) (qF x.hi y.lo) (qF x.hi y.hi) = m at *
  generalize max4 (qC x.lo y.lo) (qC x.lo y.hi) (qC x.hi y.lo) (qC x.hi y.hi) = M at *
  unfold Off at h0
  unfold qF qC at t
  by_cases hp : 0 < q
  · exact .inl ⟨hp, (fl_pos hp).1 t.1, (ce_pos hp).1 t.2.2⟩
  · have hn : q < 0 := by omega
    exact .inr ⟨hn, (fl_neg hn).1 t.1, (ce_neg hn).1 t.2.2⟩

end Go.Proofs.Ytekhhekkepijoaa

namespace Go.Proofs.Ytekhhekkepijoaa
set_option linter.unusedVariables false

theorem root_none {x : Iv} (h0 : x.lo < 0) : ivRight (ivRoot x) = false := by
  rw [root_eq]
  have : decide (x.lo < 0) = true := by simpa using h0
  rw [this]
  simp [right_none]
theorem part_refl {x : Iv} (h : ivRight x = true) : Part x x := ⟨h, h, by omega⟩
theorem both_comm (a b : Iv) : ivBoth a b = ivBoth b a := by unfold ivBoth; rw [Bool.and_comm]
theorem add_comm' (a b : Iv) : ivAdd a b = ivAdd b a := by
  unfold ivAdd; rw [both_comm, Int.add_comm, Int.add_comm a.hi]
theorem mul_comm' (a b : Iv) : ivMul a b = ivMul b a := by
  unfold ivMul
  rw [both_comm, Int.mul_comm b.lo a.lo, Int.mul_comm b.lo a.hi, Int.mul_comm b.hi a.lo, Int.mul_comm b.hi a.hi]
  have e1 : min4 (a.lo * b.lo) (a.lo * b.hi) (a.hi * b.lo) (a.hi * b.hi) = min4 (a.lo * b.lo) (a.hi * b.lo) (a.lo * b.hi) (a.hi * b.hi) := by unfold min4; omega
  have e2 : max4 (a.lo * b.lo) (a.lo * b.hi) (a.hi * b.lo) (a.hi * b.hi) = max4 (a.lo * b.lo) (a.hi * b.lo) (a.lo * b.hi) (a.hi * b.hi) := by unfold max4; omega
  rw [e1, e2]
theorem neg_of (l h : Int) : ivNeg (ivOf l h) = ivOf (-h) (-l) := by
  rcases of_cases l h with ⟨e, h1⟩ | ⟨e, h1⟩
  · rw [e]
    unfold ivNeg
    rw [if_pos (right_of.2 h1)]
  · rw [e, of_no (by omega)]
    rfl
theorem neg_form {x : Iv} (h : ivRight x = true) : ivNeg x = ⟨-x.hi, -x.lo, false⟩ := by
  have b := right_bd h
  unfold ivNeg
  rw [if_pos h, of_yes (by omega)]
theorem neg_mul' {x y : Iv} (h : ivRight x = true) (k : ivRight y = true) : ivMul (ivNeg x) y = ivNeg (ivMul x y) := by
  have b := right_bd h
  rw [neg_form h]
  unfold ivMul
  rw [if_pos (both_iff.2 ⟨right_of.2 (by omega), k⟩), if_pos (both_iff.2 ⟨h, k⟩)]
  unfold ivOut
  rw [neg_of, fdiv_one, fdiv_one, fdiv_one, fdiv_one]
  simp only [Int.neg_mul]
  congr 1
  · unfold min4 max4; omega
  · unfold min4 max4; omega
/-- An answer that is one lies within the bounds; else it is None. -/
def Good (z : Iv) : Prop := z = ivNone ∨ (z.no = false ∧ ivRight z = true)
theorem good_of (l h : Int) : Good (ivOf l h) := by
  rcases of_cases l h with ⟨e, h1⟩ | ⟨e, h1⟩
  · exact .inr ⟨by rw [e], by rw [e]; exact right_of.2 h1⟩
  · exact .inl e
theorem good_ite {c : Prop} [Decidable c] {a b : Iv} (h : Good a) (k : Good b) : Good (if c then a else b) := by split <;> assumption
theorem good_mul (a b : Iv) : Good (ivMul a b) := good_ite (good_of _ _) (.inl rfl)
end Go.Proofs.Ytekhhekkepijoaa

namespace Go.Proofs.Ytekhhekkepijoaa
set_option linter.unusedVariables false

theorem rights_add {a b : Iv} (h : ivRight (ivAdd a b) = true) : ivRight a = true ∧ ivRight b = true := by
  unfold ivAdd at h
  by_cases hb : ivBoth a b = true
  · exact both_iff.1 hb
  · rw [if_neg hb] at h
    simp [right_none] at h
theorem rights_mul {a b : Iv} (h : ivRight (ivMul a b) = true) : ivRight a = true ∧ ivRight b = true := by
  unfold ivMul at h
  by_cases hb : ivBoth a b = true
  · exact both_iff.1 hb
  · rw [if_neg hb] at h
    simp [right_none] at h
theorem rights_sqr {a : Iv} (h : ivRight (ivSqr a) = true) : ivRight a = true := by
  unfold ivSqr at h
  by_cases hb : ivRight a = true
  · exact hb
  · rw [if_neg hb] at h
    simp [right_none] at h
theorem rights_root {a : Iv} (h : ivRight (ivRoot a) = true) : ivRight a = true := by
  unfold ivRoot at h
  by_cases hb : ivRight a = true
  · exact hb
  · simp [hb, right_none] at h
theorem lessPart {a b : Iv} (h : ivLess a b = true) (hb : ivRight b = true) : Part a b := by
  unfold ivLess at h
  rw [hb] at h
  have h1 : ivInside a b = true := by simpa using h
  obtain ⟨h2, h3, h4, h5⟩ := inside_iff.1 h1
  exact ⟨h2, h3, h4, h5⟩
theorem partLess {a b : Iv} (h : Part a b) : ivLess a b = true := by
  unfold ivLess
  rw [inside_iff.2 ⟨h.1, h.2.1, h.2.2.1, h.2.2.2⟩, Bool.or_true]
theorem lessBad {a b : Iv} (h : ivRight b = false) : ivLess a b = true := by
  unfold ivLess
  rw [h]
  rfl
theorem lessAdd {p q x y : Iv} (h : ivLess p x = true) (k : ivLess q y = true) : ivLess (ivAdd p q) (ivAdd x y) = true := by
  cases hr : ivRight (ivAdd x y)
  · exact lessBad hr
  · have h1 := rights_add hr
    exact less_add (lessPart h h1.1) (lessPart k h1.2)
theorem lessMul {p q x y : Iv} (h : ivLess p x = true) (k : ivLess q y = true) : ivLess (ivMul p q) (ivMul x y) = true := by
  cases hr : ivRight (ivMul x y)
  · exact lessBad hr
  · have h1 := rights_mul hr
    exact less_mul (lessPart h h1.1) (lessPart k h1.2)
theorem lessRoot {p x : Iv} (h : ivLess p x = true) : ivLess (ivRoot p) (ivRoot x) = true := by
  cases hr : ivRight (ivRoot x)
  · exact lessBad hr
  · exact less_root (lessPart h (rights_root hr))
/-! About 0. -/
theorem neg_bad {z : Iv} (h : ivRight z = false) : ivNeg z = ivNone := by
  unfold ivNeg
  rw [h]
  rfl
theorem right_neg {z : Iv} (h : ivRight z = true) : ivRight (ivNeg z) = true := by
  have b := right_bd h
  rw [neg_form h]
  exact right_of.2 (by omega)
theorem neg_neg_right {z : Iv} (h : ivRight z = true) : ivNeg (ivNeg z) = z := by
  have b := right_bd h
  have e := (right_iff.1 h).1
  rw [neg_form h, neg_form (right_of.2 (by omega))]
  obtain ⟨lo, hi, no⟩ := z
  dsimp only at e ⊢
  rw [e, Int.neg_neg, Int.neg_neg]
theorem neg_neg_good {z : Iv} (h : Good z) : ivNeg (ivNeg z) = z := by
  rcases h with h | ⟨h1, h2⟩
  · rw [h]; rfl
  · exact neg_neg_right h2
theorem add_bad {a b : Iv} (h : ivRight a = false ∨ ivRight b = false) : ivAdd a b = ivNone := by
  unfold ivAdd ivBoth
  rcases h with h | h <;> simp [h]
theorem add_neg (a b : Iv) : ivAdd (ivNeg a) (ivNeg b) = ivNeg (ivAdd a b) := by
  cases ha : ivRight a
  · rw [neg_bad ha, add_bad (.inl rfl), add_bad (.inl ha)]; rfl
  cases hb : ivRight b
  · rw [neg_bad hb, add_bad (.inr rfl), add_bad (.inr hb)]; rfl
  unfold ivAdd
  rw [if_pos (both_iff.2 ⟨right_neg ha, right_neg hb⟩), if_pos (both_iff.2 ⟨ha, hb⟩), neg_of, neg_form ha, neg_form hb]
  congr 1 <;> dsimp only <;> omega
theorem mul_neg_neg {a b : Iv} (ha : ivRight a = true) (hb : ivRight b = true) : ivMul (ivNeg a) (ivNeg b) = ivMul a b := by
  rw [neg_mul' ha (right_neg hb), mul_comm', neg_mul' hb ha, mul_comm', neg_neg_good (good_mul _ _)]
/-! Times nothing, times one. -/
theorem fdiv_steps (n : Int) : (n * 65536).fdiv 65536 = n := by rw [fdiv_one]; omega
theorem point_form {n : Int} (h : -1073741824 ≤ n ∧ n ≤ 1073741824) : ivPoint n = ⟨n, n, false⟩ := of_yes (by omega)
theorem mul_zero {a : Iv} (h : ivRight a = true) : ivMul a ⟨0, 0, false⟩ = ⟨0, 0, false⟩ := by
  unfold ivMul
  rw [if_pos (both_iff.2 ⟨h, by decide⟩)]
  simp only [Int.mul_zero]
  rfl
theorem right_eta {a : Iv} (h : ivRight a = true) : (⟨a.lo, a.hi, false⟩ : Iv) = a := by
  have e := (right_iff.1 h).1
  obtain ⟨lo, hi, no⟩ := a
  dsimp only at e ⊢
  rw [e]
theorem mul_one {a : Iv} (h : ivRight a = true) : ivMul a ⟨65536, 65536, false⟩ = a := by
  have b := right_bd h
  unfold ivMul ivOut
  rw [if_pos (both_iff.2 ⟨h, by decide⟩)]
  dsimp only
  rw [show min4 (a.lo * 65536) (a.lo * 65536) (a.hi * 65536) (a.hi * 65536) = a.lo * 65536 by unfold min4; omega,
    show max4 (a.lo * 65536) (a.lo * 65536) (a.hi * 65536) (a.hi * 65536) = a.hi * 65536 by unfold max4; omega,
    ← Int.neg_mul, fdiv_steps, fdiv_steps, Int.neg_neg, of_yes (by omega), right_eta h]
theorem add_zero {a : Iv} (h : ivRight a = true) : ivAdd a ⟨0, 0, false⟩ = a := by
  have b := right_bd h
  unfold ivAdd
  rw [if_pos (both_iff.2 ⟨h, by decide⟩), of_yes (by dsimp only; omega), Int.add_zero, Int.add_zero, right_eta h]

/-! Squares, where they are. -/
theorem sqr_ends {u : Iv} (h : ivRight (ivSqr u) = true) :
    (u.lo ≤ 0 ∧ 0 ≤ u.hi → (ivSqr u).lo ≤ 0) ∧ (0 < u.lo → (ivSqr u).lo * 65536 ≤ u.lo * u.lo) ∧ (u.hi < 0 → (ivSqr u).lo * 65536 ≤ u.hi * u.hi) ∧
    u.lo * u.lo ≤ (ivSqr u).hi * 65536 ∧ u.hi * u.hi ≤ (ivSqr u).hi * 65536 ∧ (ivSqr u).lo ≤ (ivSqr u).hi := by
  have hu := rights_sqr h
  have b := right_bd hu
  unfold ivSqr ivOut at h ⊢
  rw [if_pos hu, has_zero hu] at h ⊢
  by_cases h0 : u.lo ≤ 0 ∧ 0 ≤ u.hi
  · rw [if_pos (c := decide (u.lo ≤ 0 ∧ 0 ≤ u.hi) = true) (by simpa using h0)] at h ⊢
    have hr := right_of_of.1 h
    rw [of_yes hr]
    simp only [fdiv_one] at hr ⊢
    omega
  · rw [if_neg (c := decide (u.lo ≤ 0 ∧ 0 ≤ u.hi) = true) (by simpa using h0)] at h ⊢
    have hr := right_of_of.1 h
    rw [of_yes hr]
    simp only [fdiv_one] at hr ⊢
    omega
/-! Roots, where they are. -/
theorem root_ends {x : Iv} (h : ivRight (ivRoot x) = true) : 0 ≤ x.lo ∧ 0 ≤ (ivRoot x).lo ∧ (ivRoot x).lo ≤ (ivRoot x).hi ∧ (ivRoot x).lo * (ivRoot x).lo ≤ x.lo * 65536 ∧ x.hi * 65536 ≤ (ivRoot x).hi * (ivRoot x).hi := by
  have hx := rights_root h
  have b := right_bd hx
  have h0 : 0 ≤ x.lo := by
    by_cases h0 : x.lo < 0
    · rw [root_none h0] at h; cases h
    · omega
  obtain ⟨r1, r2, r3⟩ := rootN_yes (n := x.lo) ⟨h0, by omega⟩ false
  obtain ⟨s1, s2, s3⟩ := rootN_yes (n := x.hi) ⟨by omega, by omega⟩ true
  have u1 := up_ge (x.lo * 65536)
  have u2 := up_ge (x.hi * 65536)
  have f1 := flRoot_bd (x.lo * 65536) (by omega) (by omega)
  have f2 := flRoot_bd (x.hi * 65536) (by omega) (by omega)
  have m1 := flRoot_mono (n := x.lo * 65536) (m := x.hi * 65536) (by omega) (by omega) (by omega)
  have hg : x.hi * 65536 ≤ upRoot (x.hi * 65536) true * upRoot (x.hi * 65536) true := by
    unfold upRoot
    cases hc : (flRoot (x.hi * 65536) * flRoot (x.hi * 65536) == x.hi * 65536)
    · simp only [Bool.true_and, Bool.not_false, if_true]; omega
    · have := eq_of_beq hc
      simp only [Bool.true_and, Bool.not_true, Bool.false_eq_true, if_false]; omega
  have e : ivRoot x = ⟨upRoot (x.lo * 65536) false, upRoot (x.hi * 65536) true, false⟩ := by
    unfold ivRoot
    rw [hx, r1, s1]
    simp only [Bool.and_true, if_true]
    exact of_yes (by omega)
  rw [e]
  dsimp only
  refine ⟨h0, r2, by omega, ?_, hg⟩
  rw [u1.2.2]
  omega
end Go.Proofs.Ytekhhekkepijoaa

namespace Go.Proofs.Ytekhhekkepijoaa
set_option linter.unusedVariables false

def triLess (a b : Iv) : Int := if ivBoth a b then (if a.hi < b.lo then 1 else if b.hi ≤ a.lo then 2 else 0) else 0
def triNA (a b : Iv) : Int := if ivBoth a b then (if a.hi ≤ b.lo then 1 else if b.hi < a.lo then 2 else 0) else 0
def triNot (n : Int) : Int := if n = 1 then 2 else if n = 2 then 1 else 0
theorem triLess_cases (a b : Iv) : (triLess a b = 1 ∧ ivBoth a b = true ∧ a.hi < b.lo) ∨ (triLess a b = 2 ∧ ivBoth a b = true ∧ b.hi ≤ a.lo) ∨ triLess a b = 0 := by
  unfold triLess
  cases ivBoth a b
  · simp
  · by_cases h : a.hi < b.lo
    · simp [h]
    · by_cases h' : b.hi ≤ a.lo <;> simp [h, h']
theorem triNA_cases (a b : Iv) : (triNA a b = 1 ∧ ivBoth a b = true ∧ a.hi ≤ b.lo) ∨ (triNA a b = 2 ∧ ivBoth a b = true ∧ b.hi < a.lo) ∨ triNA a b = 0 := by
  unfold triNA
  cases ivBoth a b
  · simp
  · by_cases h : a.hi ≤ b.lo
    · simp [h]
    · by_cases h' : b.hi < a.lo <;> simp [h, h']
theorem triLess_yes {a b : Iv} (h : ivBoth a b = true) (k : a.hi < b.lo) : triLess a b = 1 := by unfold triLess; simp [h, k]
theorem triNA_yes {a b : Iv} (h : ivBoth a b = true) (k : a.hi ≤ b.lo) : triNA a b = 1 := by unfold triNA; simp [h, k]
theorem triNA_no {a b : Iv} (h : ivBoth a b = true) (k : b.hi < a.lo) : triNA a b = 2 := by
  have r := both_bd h
  have : ¬ a.hi ≤ b.lo := by
    intro hh
    have := r.1.2.2
    have := r.2.2.2
    omega
  unfold triNA; simp [h, k, this]
/-- Less of a and b is the opposite of 'not above' of b and a. -/
theorem less_not (a b : Iv) : triNot (triNA b a) = triLess a b := by
  unfold triNot triNA triLess
  rw [both_comm b a]
  cases h : ivBoth a b
  · simp
  · have r := both_bd h
    simp only [if_true]
    by_cases h1 : b.hi ≤ a.lo
    · have : ¬ a.hi < b.lo := by omega
      simp [h1, this]
    · by_cases h2 : a.hi < b.lo <;> simp [h1, h2]
theorem na_not (a b : Iv) : triNot (triLess b a) = triNA a b := by
  rw [← less_not b a]
  unfold triNot
  have h := triNA_cases a b
  rcases h with ⟨t, -⟩ | ⟨t, -⟩ | t <;> simp [t]
end Go.Proofs.Ytekhhekkepijoaa

namespace Go.Proofs.Ytekhhekkepijoaa
set_option linter.unusedVariables false

/-! Less in less. -/
theorem lessNeg {p x : Iv} (h : ivLess p x = true) : ivLess (ivNeg p) (ivNeg x) = true := by
  cases hx : ivRight x
  · exact lessBad (by rw [neg_bad hx, right_none])
  · exact less_neg (lessPart h hx)
theorem lessSub {p q x y : Iv} (h : ivLess p x = true) (k : ivLess q y = true) : ivLess (ivSub p q) (ivSub x y) = true := lessAdd h (lessNeg k)
/-! What lies in what: numbers that are fractions, too: P / Q. -/
theorem add_ends {x y : Iv} (h : ivRight (ivAdd x y) = true) : (ivRight x = true ∧ ivRight y = true) ∧ (ivAdd x y).lo = x.lo + y.lo ∧ (ivAdd x y).hi = x.hi + y.hi := by
  have r := rights_add h
  refine ⟨r, ?_⟩
  unfold ivAdd at h ⊢
  rw [if_pos (both_iff.2 r)] at h ⊢
  rw [of_yes (right_of_of.1 h)]
  exact ⟨rfl, rfl⟩
theorem rights_neg {x : Iv} (h : ivRight (ivNeg x) = true) : ivRight x = true := by
  cases hx : ivRight x
  · rw [neg_bad hx, right_none] at h; cases h
  · rfl
theorem sub_ends {x y : Iv} (h : ivRight (ivSub x y) = true) : (ivRight x = true ∧ ivRight y = true) ∧ (ivSub x y).lo = x.lo - y.hi ∧ (ivSub x y).hi = x.hi - y.lo := by
  obtain ⟨⟨r1, r2⟩, e1, e2⟩ := add_ends (x := x) (y := ivNeg y) h
  have r3 := rights_neg r2
  rw [neg_form r3] at e1 e2
  exact ⟨⟨r1, r3⟩, by show (ivAdd x (ivNeg y)).lo = _; rw [neg_form r3, e1]; dsimp only; omega, by show (ivAdd x (ivNeg y)).hi = _; rw [neg_form r3, e2]; dsimp only; omega⟩
theorem sq_nonneg' (x : Int) : 0 ≤ x * x := by
  by_cases hp : 0 ≤ x
  · exact Int.mul_nonneg hp hp
  · have := Int.mul_nonneg (show 0 ≤ -x by omega) (show 0 ≤ -x by omega)
    rwa [Int.neg_mul_neg] at this
/-! Roots that are whole. -/
end Go.Proofs.Ytekhhekkepijoaa
