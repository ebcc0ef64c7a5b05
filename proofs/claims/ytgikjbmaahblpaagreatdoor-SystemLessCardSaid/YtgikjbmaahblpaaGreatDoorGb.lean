/-
  Intervals of steps, in plain numbers: what chapter 2's calls come to. Nothing of the program stands here.
  Intervals of steps, in plain numbers: the plain saying's products and squares are the document's.
  Intervals of steps, in plain numbers: of less each call tells less.
  Intervals of steps, in plain numbers: quotients; what is enclosed; what comes back.
  Intervals of steps, in plain numbers: what is turned about 0; less in less, one behind the other; squares and quotients of one length.
  Where a square sum is nothing, in plain numbers: the root that is told, less of less, what lies in it.
  A glass's index, in plain intervals: of less light less; of one sum alone, whose C is 0, its square has 1 and that B; of more B it is not less.
-/
import Derived.Test.YtgikjbmaahblpaaGreatDoorGa

namespace Go.Proofs.YtgikjbmaahblpaaGreatDoor
set_option linter.unusedVariables false

structure Iv where
  lo : Int
  hi : Int
  no : Bool
@[reducible] def ivV (a : Iv) : Value := .agg #[.int .i64 a.lo, .int .i64 a.hi, .bool a.no]
def ivRight (a : Iv) : Bool := !a.no && (isIn a.lo && (isIn a.hi && decide (a.lo ≤ a.hi)))
def ivNone : Iv := ⟨0, 0, true⟩
def ivOf (lo hi : Int) : Iv := if ivRight ⟨lo, hi, false⟩ then ⟨lo, hi, false⟩ else ivNone
def ivPoint (n : Int) : Iv := ivOf n n
def ivWhole (n : Int) : Iv := if isIn n then ivPoint (n * 65536) else ivNone
def ivBoth (a b : Iv) : Bool := ivRight a && ivRight b
def ivAdd (a b : Iv) : Iv := if ivBoth a b then ivOf (a.lo + b.lo) (a.hi + b.hi) else ivNone
def ivNeg (a : Iv) : Iv := if ivRight a then ivOf (-a.hi) (-a.lo) else ivNone
def ivSub (a b : Iv) : Iv := ivAdd a (ivNeg b)
def ivOut (lo hi : Int) : Iv := ivOf (lo.fdiv 65536) (-((-hi).fdiv 65536))
@[reducible] def min4 (p q r s : Int) : Int := min p (min q (min r s))
@[reducible] def max4 (p q r s : Int) : Int := max p (max q (max r s))
def ivMul (a b : Iv) : Iv := if ivBoth a b then ivOut (min4 (a.lo * b.lo) (a.lo * b.hi) (a.hi * b.lo) (a.hi * b.hi)) (max4 (a.lo * b.lo) (a.lo * b.hi) (a.hi * b.lo) (a.hi * b.hi)) else ivNone
def ivTimes (a : Iv) (k : Int) : Iv := if ivRight a && isIn k then ivOf (min (k * a.lo) (k * a.hi)) (max (k * a.lo) (k * a.hi)) else ivNone
def ivHas (a : Iv) (n : Int) : Bool := ivRight a && (decide (a.lo ≤ n) && decide (n ≤ a.hi))
def ivInside (a b : Iv) : Bool := ivBoth a b && (decide (b.lo ≤ a.lo) && decide (a.hi ≤ b.hi))
def ivSqr (a : Iv) : Iv :=
  if ivRight a then (if ivHas a 0 then ivOut 0 (max (a.lo * a.lo) (a.hi * a.hi)) else ivOut (min (a.lo * a.lo) (a.hi * a.hi)) (max (a.lo * a.lo) (a.hi * a.hi))) else ivNone
/-- Of four pairs of ends: the least of what is rounded down, to the greatest of what is rounded up; None, if one of them is none. -/
def ivEnds (d u : Int → Int → Int × Bool) (a b : Iv) : Iv :=
  if ((d a.lo b.lo).2 && (u a.lo b.lo).2) && (((d a.lo b.hi).2 && (u a.lo b.hi).2) && (((d a.hi b.lo).2 && (u a.hi b.lo).2) && ((d a.hi b.hi).2 && (u a.hi b.hi).2))) then
    ivOf (min4 (d a.lo b.lo).1 (d a.lo b.hi).1 (d a.hi b.lo).1 (d a.hi b.hi).1) (max4 (u a.lo b.lo).1 (u a.lo b.hi).1 (u a.hi b.lo).1 (u a.hi b.hi).1)
  else ivNone
def ivDiv (a b : Iv) : Iv := if ivBoth a b && !ivHas b 0 then ivEnds (fun x y => divN x y false) (fun x y => divN x y true) a b else ivNone
def ivRoot (a : Iv) : Iv := if ivRight a && ((rootN a.lo false).2 && (rootN a.hi true).2) then ivOf (rootN a.lo false).1 (rootN a.hi true).1 else ivNone
def ivHull (a b : Iv) : Iv := if ivBoth a b then ivOf (min a.lo b.lo) (max a.hi b.hi) else ivNone
theorem right_iff {a : Iv} : ivRight a = true ↔ a.no = false ∧ (-1073741824 ≤ a.lo ∧ a.lo ≤ 1073741824) ∧ (-1073741824 ≤ a.hi ∧ a.hi ≤ 1073741824) ∧ a.lo ≤ a.hi := by
  simp [ivRight, isIn_iff]
theorem right_bd {a : Iv} (h : ivRight a = true) : (-1073741824 ≤ a.lo ∧ a.lo ≤ 1073741824) ∧ (-1073741824 ≤ a.hi ∧ a.hi ≤ 1073741824) ∧ a.lo ≤ a.hi := (right_iff.1 h).2
theorem both_iff {a b : Iv} : ivBoth a b = true ↔ ivRight a = true ∧ ivRight b = true := by simp [ivBoth]
theorem both_bd {a b : Iv} (h : ivBoth a b = true) : ((-1073741824 ≤ a.lo ∧ a.lo ≤ 1073741824) ∧ (-1073741824 ≤ a.hi ∧ a.hi ≤ 1073741824) ∧ a.lo ≤ a.hi) ∧ ((-1073741824 ≤ b.lo ∧ b.lo ≤ 1073741824) ∧ (-1073741824 ≤ b.hi ∧ b.hi ≤ 1073741824) ∧ b.lo ≤ b.hi) :=
  ⟨right_bd (both_iff.1 h).1, right_bd (both_iff.1 h).2⟩
theorem right_of {lo hi : Int} : ivRight ⟨lo, hi, false⟩ = true ↔ (-1073741824 ≤ lo ∧ lo ≤ 1073741824) ∧ (-1073741824 ≤ hi ∧ hi ≤ 1073741824) ∧ lo ≤ hi := by
  rw [right_iff]; simp
theorem of_yes {lo hi : Int} (h : (-1073741824 ≤ lo ∧ lo ≤ 1073741824) ∧ (-1073741824 ≤ hi ∧ hi ≤ 1073741824) ∧ lo ≤ hi) : ivOf lo hi = ⟨lo, hi, false⟩ := by
  unfold ivOf; rw [if_pos (right_of.2 h)]
theorem of_no {lo hi : Int} (h : ¬ ((-1073741824 ≤ lo ∧ lo ≤ 1073741824) ∧ (-1073741824 ≤ hi ∧ hi ≤ 1073741824) ∧ lo ≤ hi)) : ivOf lo hi = ivNone := by
  unfold ivOf; rw [if_neg (fun e => h (right_of.1 e))]
theorem right_none : ivRight ivNone = false := rfl
/-- Whatever Of tells is right, or None. -/
theorem of_cases (lo hi : Int) : (ivOf lo hi = ⟨lo, hi, false⟩ ∧ ((-1073741824 ≤ lo ∧ lo ≤ 1073741824) ∧ (-1073741824 ≤ hi ∧ hi ≤ 1073741824) ∧ lo ≤ hi)) ∨
    (ivOf lo hi = ivNone ∧ ¬ ((-1073741824 ≤ lo ∧ lo ≤ 1073741824) ∧ (-1073741824 ≤ hi ∧ hi ≤ 1073741824) ∧ lo ≤ hi)) := by
  by_cases h : (-1073741824 ≤ lo ∧ lo ≤ 1073741824) ∧ (-1073741824 ≤ hi ∧ hi ≤ 1073741824) ∧ lo ≤ hi
  · exact .inl ⟨of_yes h, h⟩
  · exact .inr ⟨of_no h, h⟩
theorem right_of_of {lo hi : Int} : ivRight (ivOf lo hi) = true ↔ (-1073741824 ≤ lo ∧ lo ≤ 1073741824) ∧ (-1073741824 ≤ hi ∧ hi ≤ 1073741824) ∧ lo ≤ hi := by
  rcases of_cases lo hi with ⟨e, h⟩ | ⟨e, h⟩
  · rw [e, right_of]
  · rw [e]; simp only [right_none]; simp [h]
theorem prod_in {a b : Iv} (h : ivBoth a b = true) : ∀ x y, (x = a.lo ∨ x = a.hi) → (y = b.lo ∨ y = b.hi) → -1152921504606846976 ≤ x * y ∧ x * y ≤ 1152921504606846976 := by
  have hb := both_bd h
  intro x y hx hy
  exact mul_bd (A := 1073741824) (B := 1073741824) (by omega) (by omega)
theorem told_bd (n : Int) : -1073741824 ≤ (told n).1 ∧ (told n).1 ≤ 1073741824 := by
  unfold told
  split
  · rename_i h; exact isIn_iff.1 h
  · exact ⟨by decide, by decide⟩
theorem divN_bd (a b : Int) (up : Bool) : -1073741824 ≤ (divN a b up).1 ∧ (divN a b up).1 ≤ 1073741824 := by
  unfold divN
  split
  · exact told_bd _
  · exact ⟨by decide, by decide⟩
theorem min_div (p q r x y : Int) (up : Bool) : min 1073741824 (min p (min q (min r (divN x y up).1))) = min p (min q (min r (divN x y up).1)) := by
  have := divN_bd x y up
  omega
theorem max_div (p q r x y : Int) (up : Bool) : max (-1073741824) (max p (max q (max r (divN x y up).1))) = max p (max q (max r (divN x y up).1)) := by
  have := divN_bd x y up
  omega

/-- The root of a number of steps that is not below 0. -/
theorem rootN_yes {n : Int} (h : 0 ≤ n ∧ n ≤ 1073741824) (up : Bool) : rootN n up = (upRoot (n * 65536) up, true) ∧ 0 ≤ upRoot (n * 65536) up ∧ upRoot (n * 65536) up ≤ 8388609 := by
  have hi : isIn n = true := isIn_iff.2 (by omega)
  have h1 := in_root hi (by omega)
  have hb : 0 ≤ upRoot (n * 65536) up ∧ upRoot (n * 65536) up ≤ 8388609 := by
    unfold upRoot; split <;> omega
  refine ⟨?_, hb⟩
  unfold rootN
  rw [hi, show decide (n < 0) = false by simp; omega]
  show told _ = _
  unfold told
  rw [if_pos (isIn_iff.2 (by omega))]
theorem rootN_no {n : Int} (h : n < 0) (up : Bool) : rootN n up = (0, false) := by
  unfold rootN
  rw [show decide (n < 0) = true by simp; omega]
  simp
theorem root_eq (a : Iv) : ivRoot a = if ivRight a && !decide (a.lo < 0) then ivOf (rootN a.lo false).1 (rootN a.hi true).1 else ivNone := by
  unfold ivRoot
  cases h : ivRight a
  · rfl
  · have hb := right_bd h
    by_cases h0 : a.lo < 0
    · rw [rootN_no h0]
      simp [h0]
    · rw [(rootN_yes (n := a.lo) (by omega) false).1, (rootN_yes (n := a.hi) (by omega) true).1]
      simp [h0]

end Go.Proofs.YtgikjbmaahblpaaGreatDoor

namespace Go.Proofs.YtgikjbmaahblpaaGreatDoor
set_option linter.unusedVariables false

theorem fdiv_one (n : Int) : n.fdiv 65536 = n / 65536 := Int.fdiv_eq_ediv_of_nonneg _ (by omega)
theorem told_in {n : Int} (h : -1073741824 ≤ n ∧ n ≤ 1073741824) : told n = (n, true) := by
  unfold told
  rw [if_pos (isIn_iff.2 h)]
theorem told_out {n : Int} (h : ¬ (-1073741824 ≤ n ∧ n ≤ 1073741824)) : told n = (0, false) := by
  unfold told
  rw [if_neg (fun e => h (isIn_iff.1 e))]
theorem abs_sq (x : Int) : max x (-x) * max x (-x) = x * x := by
  by_cases h : 0 ≤ x
  · rw [Int.max_eq_left (by omega)]
  · rw [Int.max_eq_right (by omega)]
    rw [Int.neg_mul_neg]
theorem sq_le {x y : Int} (hx : 0 ≤ x) (h : x ≤ y) : x * x ≤ y * y := Int.mul_le_mul h h hx (by omega)
/-- The intervals that are handed in, of raw numbers. -/
def within (n a b : Int) : Int := max a (min b n)
def hWide (x w : Int) : Iv := ⟨within x (-1073741824) 1073741824, min 1073741824 (within x (-1073741824) 1073741824 + w), false⟩
def hIn (a : Iv) (x y : Int) : Iv :=
  if ivRight a then ⟨a.lo + x % (a.hi - a.lo + 1), a.lo + x % (a.hi - a.lo + 1) + y % (a.hi - (a.lo + x % (a.hi - a.lo + 1)) + 1), false⟩ else a
theorem within_bd (n a b : Int) (h : a ≤ b) : a ≤ within n a b ∧ within n a b ≤ b := by
  unfold within
  omega
theorem hIn_right {a : Iv} (x y : Int) (h : ivRight a = true) : ivRight (hIn a x y) = true ∧ a.lo ≤ (hIn a x y).lo ∧ (hIn a x y).hi ≤ a.hi ∧ (hIn a x y).lo ≤ (hIn a x y).hi := by
  have hb := right_bd h
  have h1 := Int.emod_nonneg x (show a.hi - a.lo + 1 ≠ 0 by omega)
  have h2 := Int.emod_lt_of_pos x (show 0 < a.hi - a.lo + 1 by omega)
  unfold hIn
  rw [if_pos h]
  generalize x % (a.hi - a.lo + 1) = u at *
  have h3 := Int.emod_nonneg y (show a.hi - (a.lo + u) + 1 ≠ 0 by omega)
  have h4 := Int.emod_lt_of_pos y (show 0 < a.hi - (a.lo + u) + 1 by omega)
  generalize y % (a.hi - (a.lo + u) + 1) = v at *
  rw [right_of]
  dsimp only
  omega

end Go.Proofs.YtgikjbmaahblpaaGreatDoor

namespace Go.Proofs.YtgikjbmaahblpaaGreatDoor
set_option linter.unusedVariables false

/-- The answer of less lies in the answer of more, if that is one. -/
def ivLess (a b : Iv) : Bool := !ivRight b || ivInside a b
theorem inside_iff {a b : Iv} : ivInside a b = true ↔ ivRight a = true ∧ ivRight b = true ∧ b.lo ≤ a.lo ∧ a.hi ≤ b.hi := by
  simp [ivInside, ivBoth, and_assoc]
theorem less_of {lo hi lo' hi' : Int} (h : (-1073741824 ≤ lo ∧ lo ≤ 1073741824) ∧ (-1073741824 ≤ hi ∧ hi ≤ 1073741824) ∧ lo ≤ hi → lo ≤ lo' ∧ lo' ≤ hi' ∧ hi' ≤ hi) : ivLess (ivOf lo' hi') (ivOf lo hi) = true := by
  unfold ivLess
  rcases of_cases lo hi with ⟨e, h1⟩ | ⟨e, h1⟩
  · have h2 := h h1
    rw [e, of_yes (lo := lo') (hi := hi') (by omega)]
    have : ivInside ⟨lo', hi', false⟩ ⟨lo, hi, false⟩ = true := inside_iff.2 ⟨right_of.2 (by omega), right_of.2 (by omega), h2.1, h2.2.2⟩
    rw [this]
    simp
  · rw [e, right_none]
    rfl
/-- p is less of x. -/
def Part (p x : Iv) : Prop := ivRight p = true ∧ ivRight x = true ∧ x.lo ≤ p.lo ∧ p.hi ≤ x.hi
theorem hIn_part {a : Iv} (x y : Int) (h : ivRight a = true) : Part (hIn a x y) a :=
  ⟨(hIn_right x y h).1, h, (hIn_right x y h).2.1, (hIn_right x y h).2.2.1⟩
theorem part_bd {p x : Iv} (h : Part p x) : ((-1073741824 ≤ p.lo ∧ p.lo ≤ 1073741824) ∧ (-1073741824 ≤ p.hi ∧ p.hi ≤ 1073741824) ∧ p.lo ≤ p.hi) ∧ ((-1073741824 ≤ x.lo ∧ x.lo ≤ 1073741824) ∧ (-1073741824 ≤ x.hi ∧ x.hi ≤ 1073741824) ∧ x.lo ≤ x.hi) ∧ x.lo ≤ p.lo ∧ p.hi ≤ x.hi :=
  ⟨right_bd h.1, right_bd h.2.1, h.2.2⟩
theorem part_both {p q x y : Iv} (h : Part p x) (k : Part q y) : ivBoth p q = true ∧ ivBoth x y = true := ⟨both_iff.2 ⟨h.1, k.1⟩, both_iff.2 ⟨h.2.1, k.2.1⟩⟩
theorem less_add {p q x y : Iv} (h : Part p x) (k : Part q y) : ivLess (ivAdd p q) (ivAdd x y) = true := by
  have b := part_bd h
  have c := part_bd k
  unfold ivAdd
  rw [if_pos (part_both h k).1, if_pos (part_both h k).2]
  exact less_of (by omega)
theorem less_neg {p x : Iv} (h : Part p x) : ivLess (ivNeg p) (ivNeg x) = true := by
  have b := part_bd h
  unfold ivNeg
  rw [if_pos h.1, if_pos h.2.1]
  exact less_of (by omega)
/-- A product lies between those of the ends. -/
theorem mul_between {l u h : Int} (v : Int) (h1 : l ≤ u) (h2 : u ≤ h) : min (l * v) (h * v) ≤ u * v ∧ u * v ≤ max (l * v) (h * v) := by
  by_cases hv : 0 ≤ v
  · have := Int.mul_le_mul_of_nonneg_right h1 hv
    have := Int.mul_le_mul_of_nonneg_right h2 hv
    omega
  · have := Int.mul_le_mul_of_nonpos_right h1 (show v ≤ 0 by omega)
    have := Int.mul_le_mul_of_nonpos_right h2 (show v ≤ 0 by omega)
    omega
theorem mul_between2 {l h u l2 h2 v : Int} (a : l ≤ u) (b : u ≤ h) (c : l2 ≤ v) (d : v ≤ h2) :
    min4 (l * l2) (l * h2) (h * l2) (h * h2) ≤ u * v ∧ u * v ≤ max4 (l * l2) (l * h2) (h * l2) (h * h2) := by
  have e1 := mul_between v a b
  have e2 := mul_between l c d
  have e3 := mul_between h c d
  rw [Int.mul_comm l2 l, Int.mul_comm h2 l, Int.mul_comm v l] at e2
  rw [Int.mul_comm l2 h, Int.mul_comm h2 h, Int.mul_comm v h] at e3
  unfold min4 max4
  omega
theorem less_out {lo hi lo' hi' : Int} (h : lo ≤ lo' ∧ lo' ≤ hi' ∧ hi' ≤ hi) : ivLess (ivOut lo' hi') (ivOut lo hi) = true := by
  unfold ivOut
  rw [fdiv_one, fdiv_one, fdiv_one, fdiv_one]
  exact less_of (by omega)
theorem less_mul {p q x y : Iv} (h : Part p x) (k : Part q y) : ivLess (ivMul p q) (ivMul x y) = true := by
  have b := part_bd h
  have c := part_bd k
  unfold ivMul
  rw [if_pos (part_both h k).1, if_pos (part_both h k).2]
  have m1 := mul_between2 (l := x.lo) (h := x.hi) (u := p.lo) (l2 := y.lo) (h2 := y.hi) (v := q.lo) (by omega) (by omega) (by omega) (by omega)
  have m2 := mul_between2 (l := x.lo) (h := x.hi) (u := p.lo) (l2 := y.lo) (h2 := y.hi) (v := q.hi) (by omega) (by omega) (by omega) (by omega)
  have m3 := mul_between2 (l := x.lo) (h := x.hi) (u := p.hi) (l2 := y.lo) (h2 := y.hi) (v := q.lo) (by omega) (by omega) (by omega) (by omega)
  have m4 := mul_between2 (l := x.lo) (h := x.hi) (u := p.hi) (l2 := y.lo) (h2 := y.hi) (v := q.hi) (by omega) (by omega) (by omega) (by omega)
  refine less_out ?_
  generalize min4 (x.lo * y.lo) (x.lo * y.hi) (x.hi * y.lo) (x.hi * y.hi) = M at *
  generalize max4 (x.lo * y.lo) (x.lo * y.hi) (x.hi * y.lo) (x.hi * y.hi) = N at *
  unfold min4 max4
  omega
theorem sq_between {l u h : Int} (a : l ≤ u) (b : u ≤ h) : u * u ≤ max (l * l) (h * h) ∧ (¬ (l ≤ 0 ∧ 0 ≤ h) → min (l * l) (h * h) ≤ u * u) ∧ 0 ≤ u * u := by
  have n : 0 ≤ u * u := by rw [← abs_sq]; exact Int.mul_nonneg (by omega) (by omega)
  by_cases hu : 0 ≤ u
  · have h1 := sq_le hu b
    by_cases hl : 0 ≤ l
    · have h2 := sq_le hl a
      omega
    · omega
  · have e1 : u * u = (-u) * (-u) := (Int.neg_mul_neg u u).symm
    have e2 : l * l = (-l) * (-l) := (Int.neg_mul_neg l l).symm
    have e3 : h * h = (-h) * (-h) := (Int.neg_mul_neg h h).symm
    have h1 := sq_le (x := -u) (y := -l) (by omega) (by omega)
    rw [← e1, ← e2] at h1
    by_cases hh : h ≤ 0
    · have h2 := sq_le (x := -h) (y := -u) (by omega) (by omega)
      rw [← e1, ← e3] at h2
      omega
    · omega
theorem has_zero {a : Iv} (h : ivRight a = true) : ivHas a 0 = decide (a.lo ≤ 0 ∧ 0 ≤ a.hi) := by
  unfold ivHas
  rw [h]
  simp
theorem less_sqr {p x : Iv} (h : Part p x) : ivLess (ivSqr p) (ivSqr x) = true := by
  have b := part_bd h
  unfold ivSqr
  rw [if_pos h.1, if_pos h.2.1, has_zero h.1, has_zero h.2.1]
  have s1 := sq_between (l := x.lo) (u := p.lo) (h := x.hi) (by omega) (by omega)
  have s2 := sq_between (l := x.lo) (u := p.hi) (h := x.hi) (by omega) (by omega)
  by_cases h1 : x.lo ≤ 0 ∧ 0 ≤ x.hi
  · rw [if_pos (c := decide (x.lo ≤ 0 ∧ 0 ≤ x.hi) = true) (by simpa using h1)]
    split
    · exact less_out (by omega)
    · exact less_out (by omega)
  · rw [if_neg (c := decide (x.lo ≤ 0 ∧ 0 ≤ x.hi) = true) (by simpa using h1), if_neg (by simp; omega)]
    have t1 := s1.2.1 h1
    have t2 := s2.2.1 h1
    exact less_out (by omega)
theorem flRoot_mono {n m : Int} (h0 : 0 ≤ n) (h : n ≤ m) (h1 : m < 281474976710656) : flRoot n ≤ flRoot m := by
  have ⟨a, b, c⟩ := flRoot_bd n h0 (by omega)
  have ⟨d, e, f⟩ := flRoot_bd m (by omega) h1
  exact flRoot_le n (flRoot m) h0 (by omega) d (by omega)
theorem upRoot_mono {n m : Int} (h0 : 0 ≤ n) (h : n ≤ m) (h1 : m < 281474976710656) : upRoot n true ≤ upRoot m true := by
  have ⟨a, b, c⟩ := flRoot_bd n h0 (by omega)
  have ⟨d, e, f⟩ := flRoot_bd m (by omega) h1
  have g := flRoot_mono h0 h h1
  unfold upRoot
  by_cases hn : flRoot n * flRoot n = n <;> by_cases hm : flRoot m * flRoot m = m
  · simp [hn, hm]; exact g
  · simp [hn, hm]; omega
  · have : flRoot n < flRoot m := by
      by_cases h2 : flRoot n < flRoot m
      · exact h2
      · have h3 : flRoot n = flRoot m := by omega
        rw [h3] at hn b
        omega
    simp [hn, hm]
    omega
  · simp [hn, hm]; omega
theorem up_ge (n : Int) : flRoot n ≤ upRoot n true ∧ upRoot n true ≤ flRoot n + 1 ∧ upRoot n false = flRoot n := by
  unfold upRoot
  refine ⟨?_, ?_, by simp⟩
  · split <;> omega
  · split <;> omega
theorem less_root {p x : Iv} (h : Part p x) : ivLess (ivRoot p) (ivRoot x) = true := by
  have b := part_bd h
  rw [root_eq, root_eq, h.1, h.2.1]
  by_cases h0 : x.lo < 0
  · simp only [h0]
    simp [ivLess, right_none]
  · have h1 : ¬ p.lo < 0 := by omega
    simp only [h0, h1]
    rw [(rootN_yes (n := x.lo) (by omega) false).1, (rootN_yes (n := x.hi) (by omega) true).1, (rootN_yes (n := p.lo) (by omega) false).1, (rootN_yes (n := p.hi) (by omega) true).1]
    have r1 := flRoot_mono (n := x.lo * 65536) (m := p.lo * 65536) (by omega) (by omega) (by omega)
    have r2 := upRoot_mono (n := p.hi * 65536) (m := x.hi * 65536) (by omega) (by omega) (by omega)
    have r3 := flRoot_mono (n := p.lo * 65536) (m := p.hi * 65536) (by omega) (by omega) (by omega)
    have u1 := up_ge (x.lo * 65536)
    have u2 := up_ge (p.lo * 65536)
    have u3 := up_ge (p.hi * 65536)
    exact less_of (by simp only; omega)

end Go.Proofs.YtgikjbmaahblpaaGreatDoor

namespace Go.Proofs.YtgikjbmaahblpaaGreatDoor
set_option linter.unusedVariables false

/-- The quotient of two numbers of steps, rounded down, rounded up. -/
def qF (x y : Int) : Int := (x * 65536).fdiv y
def qC (x y : Int) : Int := -((-(x * 65536)).fdiv y)
theorem fl_pos {k n v : Int} (h : 0 < v) : k ≤ n.fdiv v ↔ k * v ≤ n := by
  rw [Int.fdiv_eq_ediv_of_nonneg _ (by omega)]
  exact Int.le_ediv_iff_mul_le h
theorem fl_neg {k n v : Int} (h : v < 0) : k ≤ n.fdiv v ↔ n ≤ k * v := by
  rw [← Int.neg_fdiv_neg, fl_pos (by omega), Int.mul_neg]
  omega
theorem ce_pos {k n v : Int} (h : 0 < v) : -((-n).fdiv v) ≤ k ↔ n ≤ k * v := by
  have := fl_pos (k := -k) (n := -n) h
  rw [Int.neg_mul] at this
  omega
theorem ce_neg {k n v : Int} (h : v < 0) : -((-n).fdiv v) ≤ k ↔ k * v ≤ n := by
  have := fl_neg (k := -k) (n := -n) h
  rw [Int.neg_mul] at this
  omega
theorem fl_le_ce (n : Int) {v : Int} (h : v ≠ 0) : n.fdiv v ≤ -((-n).fdiv v) := by
  rw [ceil_eq n v h]
  split <;> omega
theorem q_between {xl xh yl yh u v m M : Int} (hx : xl ≤ u ∧ u ≤ xh) (hy : yl ≤ v ∧ v ≤ yh) (h0 : ¬ (yl ≤ 0 ∧ 0 ≤ yh))
    (hm : m ≤ qF xl yl ∧ m ≤ qF xl yh ∧ m ≤ qF xh yl ∧ m ≤ qF xh yh) (hM : qC xl yl ≤ M ∧ qC xl yh ≤ M ∧ qC xh yl ≤ M ∧ qC xh yh ≤ M) : m ≤ qF u v ∧ qF u v ≤ qC u v ∧ qC u v ≤ M := by
  have t1 := mul_between m hy.1 hy.2
  have t2 := mul_between M hy.1 hy.2
  rw [Int.mul_comm yl, Int.mul_comm yh, Int.mul_comm v] at t1 t2
  unfold qF qC at *
  by_cases hp : 0 < yl
  · simp only [fl_pos hp, fl_pos (show 0 < yh by omega)] at hm
    simp only [ce_pos hp, ce_pos (show 0 < yh by omega)] at hM
    refine ⟨(fl_pos (by omega)).2 (by omega), fl_le_ce _ (by omega), (ce_pos (by omega)).2 (by omega)⟩
  · simp only [fl_neg (show yl < 0 by omega), fl_neg (show yh < 0 by omega)] at hm
    simp only [ce_neg (show yl < 0 by omega), ce_neg (show yh < 0 by omega)] at hM
    refine ⟨(fl_neg (by omega)).2 (by omega), fl_le_ce _ (by omega), (ce_neg (by omega)).2 (by omega)⟩
theorem divN_in {x y : Int} (hx : -1073741824 ≤ x ∧ x ≤ 1073741824) (hy : -1073741824 ≤ y ∧ y ≤ 1073741824) (h0 : y ≠ 0) : divN x y false = told (qF x y) ∧ divN x y true = told (qC x y) := by
  unfold divN
  rw [isIn_iff.2 hx, isIn_iff.2 hy, show (y == 0) = false by simpa using h0]
  exact ⟨rfl, rfl⟩
theorem told_ok {n : Int} : (told n).2 = true ↔ -1073741824 ≤ n ∧ n ≤ 1073741824 := by
  by_cases h : -1073741824 ≤ n ∧ n ≤ 1073741824
  · rw [told_in h]; simp [h]
  · rw [told_out h]; simp [h]
/-- What lies off 0. -/
def Off (y : Iv) : Prop := ¬ (y.lo ≤ 0 ∧ 0 ≤ y.hi)
theorem div_form {x y : Iv} (hb : ivBoth x y = true) (h0 : Off y) : ivDiv x y =
    if (((told (qF x.lo y.lo)).2 && (told (qC x.lo y.lo)).2) && (((told (qF x.lo y.hi)).2 && (told (qC x.lo y.hi)).2) && (((told (qF x.hi y.lo)).2 && (told (qC x.hi y.lo)).2) && ((told (qF x.hi y.hi)).2 && (told (qC x.hi y.hi)).2)))) then
      ivOf (min4 (told (qF x.lo y.lo)).1 (told (qF x.lo y.hi)).1 (told (qF x.hi y.lo)).1 (told (qF x.hi y.hi)).1) (max4 (told (qC x.lo y.lo)).1 (told (qC x.lo y.hi)).1 (told (qC x.hi y.lo)).1 (told (qC x.hi y.hi)).1)
    else ivNone := by
  have b := both_bd hb
  unfold Off at h0
  unfold ivDiv
  rw [hb, has_zero (both_iff.1 hb).2, show decide (y.lo ≤ 0 ∧ 0 ≤ y.hi) = false by simpa using h0]
  have d1 := divN_in (x := x.lo) (y := y.lo) (by omega) (by omega) (by omega)
  have d2 := divN_in (x := x.lo) (y := y.hi) (by omega) (by omega) (by omega)
  have d3 := divN_in (x := x.hi) (y := y.lo) (by omega) (by omega) (by omega)
  have d4 := divN_in (x := x.hi) (y := y.hi) (by omega) (by omega) (by omega)
  simp only [ivEnds, d1.1, d1.2, d2.1, d2.2, d3.1, d3.2, d4.1, d4.2]
  rfl
theorem div_yes {x y : Iv} (hb : ivBoth x y = true) (h0 : Off y)
    (h : (-1073741824 ≤ qF x.lo y.lo ∧ qC x.lo y.lo ≤ 1073741824) ∧ (-1073741824 ≤ qF x.lo y.hi ∧ qC x.lo y.hi ≤ 1073741824) ∧ (-1073741824 ≤ qF x.hi y.lo ∧ qC x.hi y.lo ≤ 1073741824) ∧ (-1073741824 ≤ qF x.hi y.hi ∧ qC x.hi y.hi ≤ 1073741824)) :
    ivDiv x y = ivOf (min4 (qF x.lo y.lo) (qF x.lo y.hi) (qF x.hi y.lo) (qF x.hi y.hi)) (max4 (qC x.lo y.lo) (qC x.lo y.hi) (qC x.hi y.lo) (qC x.hi y.hi)) := by
  rw [div_form hb h0]
  unfold Off at h0
  have b := both_bd hb
  have f1 : qF x.lo y.lo ≤ qC x.lo y.lo := fl_le_ce _ (by omega)
  have f2 : qF x.lo y.hi ≤ qC x.lo y.hi := fl_le_ce _ (by omega)
  have f3 : qF x.hi y.lo ≤ qC x.hi y.lo := fl_le_ce _ (by omega)
  have f4 : qF x.hi y.hi ≤ qC x.hi y.hi := fl_le_ce _ (by omega)
  rw [told_in (n := qF x.lo y.lo) (by omega), told_in (n := qC x.lo y.lo) (by omega), told_in (n := qF x.lo y.hi) (by omega), told_in (n := qC x.lo y.hi) (by omega),
    told_in (n := qF x.hi y.lo) (by omega), told_in (n := qC x.hi y.lo) (by omega), told_in (n := qF x.hi y.hi) (by omega), told_in (n := qC x.hi y.hi) (by omega)]
  rfl
theorem div_right {x y : Iv} (h : ivRight (ivDiv x y) = true) : ivBoth x y = true ∧ Off y ∧
    ((-1073741824 ≤ qF x.lo y.lo ∧ qC x.lo y.lo ≤ 1073741824) ∧ (-1073741824 ≤ qF x.lo y.hi ∧ qC x.lo y.hi ≤ 1073741824) ∧ (-1073741824 ≤ qF x.hi y.lo ∧ qC x.hi y.lo ≤ 1073741824) ∧ (-1073741824 ≤ qF x.hi y.hi ∧ qC x.hi y.hi ≤ 1073741824)) := by
  have hb : ivBoth x y = true := by
    cases hb : ivBoth x y
    · unfold ivDiv at h
      rw [hb] at h
      simp [right_none] at h
    · rfl
  have h0 : Off y := by
    intro h0
    unfold ivDiv at h
    rw [hb, has_zero (both_iff.1 hb).2, show decide (y.lo ≤ 0 ∧ 0 ≤ y.hi) = true by simpa using h0] at h
    simp [right_none] at h
  refine ⟨hb, h0, ?_⟩
  rw [div_form hb h0] at h
  split at h
  · rename_i hc
    simp only [Bool.and_eq_true, told_ok] at hc
    omega
  · rw [right_none] at h
    cases h
theorem less_div {p q x y : Iv} (h : Part p x) (k : Part q y) : ivLess (ivDiv p q) (ivDiv x y) = true := by
  cases hr : ivRight (ivDiv x y)
  · unfold ivLess
    rw [hr]
    rfl
  · obtain ⟨hb, h0, hq⟩ := div_right hr
    have b := part_bd h
    have c := part_bd k
    have e := div_yes hb h0 hq
    have h0' : Off q := by unfold Off at *; omega
    rw [e] at hr ⊢
    have hr' := right_of_of.1 hr
    have t : ∀ u v, (u = p.lo ∨ u = p.hi) → (v = q.lo ∨ v = q.hi) → min4 (qF x.lo y.lo) (qF x.lo y.hi) (qF x.hi y.lo) (qF x.hi y.hi) ≤ qF u v ∧ qF u v ≤ qC u v ∧ qC u v ≤ max4 (qC x.lo y.lo) (qC x.lo y.hi) (qC x.hi y.lo) (qC x.hi y.hi) :=
      fun u v hu hv => q_between (xl := x.lo) (xh := x.hi) (yl := y.lo) (yh := y.hi) (by omega) (by omega) h0 (by unfold min4; omega) (by unfold max4; omega)
    have t1 := t p.lo q.lo (.inl rfl) (.inl rfl)
    have t2 := t p.lo q.hi (.inl rfl) (.inr rfl)
    have t3 := t p.hi q.lo (.inr rfl) (.inl rfl)
    have t4 := t p.hi q.hi (.inr rfl) (.inr rfl)
    generalize min4 (qF x.lo y.lo) (qF x.lo y.hi) (qF x.hi y.lo) (qF x.hi y.hi) = m at *
    generalize max4 (qC x.lo y.lo) (qC x.lo y.hi) (qC x.hi y.lo) (qC x.hi y.hi) = M at *
    rw [div_yes (part_both h k).1 h0' (by omega)]
    exact less_of (by unfold min4 max4; omega)
end Go.Proofs.YtgikjbmaahblpaaGreatDoor

namespace Go.Proofs.YtgikjbmaahblpaaGreatDoor
set_option linter.unusedVariables false

theorem rights_add {a b : Iv} (h : ivRight (ivAdd a b) = true) : ivRight a = true ∧ ivRight b = true := by
  unfold ivAdd at h
  by_cases hb : ivBoth a b = true
  · exact both_iff.1 hb
  · rw [if_neg hb] at h
    simp [right_none] at h
theorem rights_mul {a b : Iv} (h : ivRight (ivMul a b) = true) : ivRight a = true ∧ ivRight b = true := by
  unfold ivMul at h
  by_cases hb : ivBoth a b = true
  · exact both_iff.1 hb
  · rw [if_neg hb] at h
    simp [right_none] at h
theorem rights_root {a : Iv} (h : ivRight (ivRoot a) = true) : ivRight a = true := by
  unfold ivRoot at h
  by_cases hb : ivRight a = true
  · exact hb
  · simp [hb, right_none] at h
theorem lessPart {a b : Iv} (h : ivLess a b = true) (hb : ivRight b = true) : Part a b := by
  unfold ivLess at h
  rw [hb] at h
  have h1 : ivInside a b = true := by simpa using h
  obtain ⟨h2, h3, h4, h5⟩ := inside_iff.1 h1
  exact ⟨h2, h3, h4, h5⟩
theorem partLess {a b : Iv} (h : Part a b) : ivLess a b = true := by
  unfold ivLess
  rw [inside_iff.2 ⟨h.1, h.2.1, h.2.2.1, h.2.2.2⟩, Bool.or_true]
theorem lessBad {a b : Iv} (h : ivRight b = false) : ivLess a b = true := by
  unfold ivLess
  rw [h]
  rfl
theorem lessAdd {p q x y : Iv} (h : ivLess p x = true) (k : ivLess q y = true) : ivLess (ivAdd p q) (ivAdd x y) = true := by
  cases hr : ivRight (ivAdd x y)
  · exact lessBad hr
  · have h1 := rights_add hr
    exact less_add (lessPart h h1.1) (lessPart k h1.2)
theorem lessMul {p q x y : Iv} (h : ivLess p x = true) (k : ivLess q y = true) : ivLess (ivMul p q) (ivMul x y) = true := by
  cases hr : ivRight (ivMul x y)
  · exact lessBad hr
  · have h1 := rights_mul hr
    exact less_mul (lessPart h h1.1) (lessPart k h1.2)
theorem lessRoot {p x : Iv} (h : ivLess p x = true) : ivLess (ivRoot p) (ivRoot x) = true := by
  cases hr : ivRight (ivRoot x)
  · exact lessBad hr
  · exact less_root (lessPart h (rights_root hr))
theorem lessDiv {p q x y : Iv} (h : ivLess p x = true) (k : ivLess q y = true) : ivLess (ivDiv p q) (ivDiv x y) = true := by
  cases hr : ivRight (ivDiv x y)
  · exact lessBad hr
  · have h1 := both_iff.1 (div_right hr).1
    exact less_div (lessPart h h1.1) (lessPart k h1.2)

/-! About 0. -/
theorem neg_bad {z : Iv} (h : ivRight z = false) : ivNeg z = ivNone := by
  unfold ivNeg
  rw [h]
  rfl
/-! Times nothing, times one. -/
theorem fdiv_steps (n : Int) : (n * 65536).fdiv 65536 = n := by rw [fdiv_one]; omega
theorem right_eta {a : Iv} (h : ivRight a = true) : (⟨a.lo, a.hi, false⟩ : Iv) = a := by
  have e := (right_iff.1 h).1
  obtain ⟨lo, hi, no⟩ := a
  dsimp only at e ⊢
  rw [e]
theorem mul_one {a : Iv} (h : ivRight a = true) : ivMul a ⟨65536, 65536, false⟩ = a := by
  have b := right_bd h
  unfold ivMul ivOut
  rw [if_pos (both_iff.2 ⟨h, by decide⟩)]
  dsimp only
  rw [show min4 (a.lo * 65536) (a.lo * 65536) (a.hi * 65536) (a.hi * 65536) = a.lo * 65536 by unfold min4; omega,
    show max4 (a.lo * 65536) (a.lo * 65536) (a.hi * 65536) (a.hi * 65536) = a.hi * 65536 by unfold max4; omega,
    ← Int.neg_mul, fdiv_steps, fdiv_steps, Int.neg_neg, of_yes (by omega), right_eta h]
theorem add_zero {a : Iv} (h : ivRight a = true) : ivAdd a ⟨0, 0, false⟩ = a := by
  have b := right_bd h
  unfold ivAdd
  rw [if_pos (both_iff.2 ⟨h, by decide⟩), of_yes (by dsimp only; omega), Int.add_zero, Int.add_zero, right_eta h]

/-! Squares, where they are. -/
/-! Roots, where they are. -/
end Go.Proofs.YtgikjbmaahblpaaGreatDoor

namespace Go.Proofs.YtgikjbmaahblpaaGreatDoor
set_option linter.unusedVariables false

/-! Less in less. -/
theorem lessNeg {p x : Iv} (h : ivLess p x = true) : ivLess (ivNeg p) (ivNeg x) = true := by
  cases hx : ivRight x
  · exact lessBad (by rw [neg_bad hx, right_none])
  · exact less_neg (lessPart h hx)
theorem lessSub {p q x y : Iv} (h : ivLess p x = true) (k : ivLess q y = true) : ivLess (ivSub p q) (ivSub x y) = true := lessAdd h (lessNeg k)
/-! What lies in what: numbers that are fractions, too: P / Q. -/
/-! Roots that are whole. -/
end Go.Proofs.YtgikjbmaahblpaaGreatDoor

namespace Go.Proofs.YtgikjbmaahblpaaGreatDoor
set_option linter.unusedVariables false

def glSum (l b c : Iv) : Iv := ivDiv (ivMul b l) (ivSub l c)
def ixOf (l b0 c0 b1 c1 b2 c2 : Iv) : Iv := ivRoot (ivAdd (ivAdd (ivAdd (ivPoint 65536) (glSum l b0 c0)) (glSum l b1 c1)) (glSum l b2 c2))

theorem less_refl (x : Iv) : ivLess x x = true := by
  cases h : ivRight x
  · exact lessBad h
  · exact partLess ⟨h, h, Int.le_refl _, Int.le_refl _⟩
theorem lessSqr {p x : Iv} (h : ivLess p x = true) : ivLess (ivSqr p) (ivSqr x) = true := by
  cases hx : ivRight x
  · refine lessBad ?_
    unfold ivSqr
    rw [hx]
    rfl
  · exact less_sqr (lessPart h hx)
theorem sum_less {p x : Iv} (h : ivLess p x = true) (b c : Iv) : ivLess (glSum p b c) (glSum x b c) = true :=
  lessDiv (lessMul (less_refl b) h) (lessSub h (less_refl c))
theorem ix_less {p x : Iv} (h : ivLess p x = true) (b0 c0 b1 c1 b2 c2 : Iv) : ivLess (ixOf (ivSqr p) b0 c0 b1 c1 b2 c2) (ixOf (ivSqr x) b0 c0 b1 c1 b2 c2) = true := by
  have hs := lessSqr h
  exact lessRoot (lessAdd (lessAdd (lessAdd (less_refl _) (sum_less hs _ _)) (sum_less hs _ _)) (sum_less hs _ _))

/-! ### One sum alone -/
end Go.Proofs.YtgikjbmaahblpaaGreatDoor
