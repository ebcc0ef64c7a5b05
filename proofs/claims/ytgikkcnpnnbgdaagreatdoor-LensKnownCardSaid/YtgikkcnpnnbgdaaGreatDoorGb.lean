/-
  Intervals of steps, in plain numbers: what chapter 2's calls come to. Nothing of the program stands here.
-/
import Derived.Test.YtgikkcnpnnbgdaaGreatDoorGa

namespace Go.Proofs.YtgikkcnpnnbgdaaGreatDoor
set_option linter.unusedVariables false

structure Iv where
  lo : Int
  hi : Int
  no : Bool
@[reducible] def ivV (a : Iv) : Value := .agg #[.int .i64 a.lo, .int .i64 a.hi, .bool a.no]
def ivRight (a : Iv) : Bool := !a.no && (isIn a.lo && (isIn a.hi && decide (a.lo ≤ a.hi)))
def ivNone : Iv := ⟨0, 0, true⟩
def ivOf (lo hi : Int) : Iv := if ivRight ⟨lo, hi, false⟩ then ⟨lo, hi, false⟩ else ivNone
def ivPoint (n : Int) : Iv := ivOf n n
def ivWhole (n : Int) : Iv := if isIn n then ivPoint (n * 65536) else ivNone
def ivBoth (a b : Iv) : Bool := ivRight a && ivRight b
def ivAdd (a b : Iv) : Iv := if ivBoth a b then ivOf (a.lo + b.lo) (a.hi + b.hi) else ivNone
def ivNeg (a : Iv) : Iv := if ivRight a then ivOf (-a.hi) (-a.lo) else ivNone
def ivSub (a b : Iv) : Iv := ivAdd a (ivNeg b)
def ivOut (lo hi : Int) : Iv := ivOf (lo.fdiv 65536) (-((-hi).fdiv 65536))
@[reducible] def min4 (p q r s : Int) : Int := min p (min q (min r s))
@[reducible] def max4 (p q r s : Int) : Int := max p (max q (max r s))
def ivMul (a b : Iv) : Iv := if ivBoth a b then ivOut (min4 (a.lo * b.lo) (a.lo * b.hi) (a.hi * b.lo) (a.hi * b.hi)) (max4 (a.lo * b.lo) (a.lo * b.hi) (a.hi * b.lo) (a.hi * b.hi)) else ivNone
def ivTimes (a : Iv) (k : Int) : Iv := if ivRight a && isIn k then ivOf (min (k * a.lo) (k * a.hi)) (max (k * a.lo) (k * a.hi)) else ivNone
def ivHas (a : Iv) (n : Int) : Bool := ivRight a && (decide (a.lo ≤ n) && decide (n ≤ a.hi))
def ivInside (a b : Iv) : Bool := ivBoth a b && (decide (b.lo ≤ a.lo) && decide (a.hi ≤ b.hi))
def ivSqr (a : Iv) : Iv :=
  if ivRight a then (if ivHas a 0 then ivOut 0 (max (a.lo * a.lo) (a.hi * a.hi)) else ivOut (min (a.lo * a.lo) (a.hi * a.hi)) (max (a.lo * a.lo) (a.hi * a.hi))) else ivNone
/-- Of four pairs of ends: the least of what is rounded down, to the greatest of what is rounded up; None, if one of them is none. -/
def ivEnds (d u : Int → Int → Int × Bool) (a b : Iv) : Iv :=
  if ((d a.lo b.lo).2 && (u a.lo b.lo).2) && (((d a.lo b.hi).2 && (u a.lo b.hi).2) && (((d a.hi b.lo).2 && (u a.hi b.lo).2) && ((d a.hi b.hi).2 && (u a.hi b.hi).2))) then
    ivOf (min4 (d a.lo b.lo).1 (d a.lo b.hi).1 (d a.hi b.lo).1 (d a.hi b.hi).1) (max4 (u a.lo b.lo).1 (u a.lo b.hi).1 (u a.hi b.lo).1 (u a.hi b.hi).1)
  else ivNone
def ivDiv (a b : Iv) : Iv := if ivBoth a b && !ivHas b 0 then ivEnds (fun x y => divN x y false) (fun x y => divN x y true) a b else ivNone
def ivRoot (a : Iv) : Iv := if ivRight a && ((rootN a.lo false).2 && (rootN a.hi true).2) then ivOf (rootN a.lo false).1 (rootN a.hi true).1 else ivNone
def ivHull (a b : Iv) : Iv := if ivBoth a b then ivOf (min a.lo b.lo) (max a.hi b.hi) else ivNone
def ivMeet (a b : Iv) : Iv := if ivBoth a b then ivOf (max a.lo b.lo) (min a.hi b.hi) else ivNone
def ivMid (a : Iv) : Int := if ivRight a then (a.lo + a.hi).fdiv 2 else 0
def ivSplit (a : Iv) : Iv × Iv := if ivRight a then (ivOf a.lo (ivMid a), ivOf (ivMid a) a.hi) else (ivNone, ivNone)

/-- What one pair of ends makes: a quotient, or a product. -/
def eN (div : Bool) (x y : Int) (up : Bool) : Int × Bool := if div then divN x y up else mulN x y up

theorem right_iff {a : Iv} : ivRight a = true ↔ a.no = false ∧ (-1073741824 ≤ a.lo ∧ a.lo ≤ 1073741824) ∧ (-1073741824 ≤ a.hi ∧ a.hi ≤ 1073741824) ∧ a.lo ≤ a.hi := by
  simp [ivRight, isIn_iff]
theorem right_bd {a : Iv} (h : ivRight a = true) : (-1073741824 ≤ a.lo ∧ a.lo ≤ 1073741824) ∧ (-1073741824 ≤ a.hi ∧ a.hi ≤ 1073741824) ∧ a.lo ≤ a.hi := (right_iff.1 h).2
theorem both_iff {a b : Iv} : ivBoth a b = true ↔ ivRight a = true ∧ ivRight b = true := by simp [ivBoth]
theorem both_bd {a b : Iv} (h : ivBoth a b = true) : ((-1073741824 ≤ a.lo ∧ a.lo ≤ 1073741824) ∧ (-1073741824 ≤ a.hi ∧ a.hi ≤ 1073741824) ∧ a.lo ≤ a.hi) ∧ ((-1073741824 ≤ b.lo ∧ b.lo ≤ 1073741824) ∧ (-1073741824 ≤ b.hi ∧ b.hi ≤ 1073741824) ∧ b.lo ≤ b.hi) :=
  ⟨right_bd (both_iff.1 h).1, right_bd (both_iff.1 h).2⟩
theorem right_of {lo hi : Int} : ivRight ⟨lo, hi, false⟩ = true ↔ (-1073741824 ≤ lo ∧ lo ≤ 1073741824) ∧ (-1073741824 ≤ hi ∧ hi ≤ 1073741824) ∧ lo ≤ hi := by
  rw [right_iff]; simp
theorem of_yes {lo hi : Int} (h : (-1073741824 ≤ lo ∧ lo ≤ 1073741824) ∧ (-1073741824 ≤ hi ∧ hi ≤ 1073741824) ∧ lo ≤ hi) : ivOf lo hi = ⟨lo, hi, false⟩ := by
  unfold ivOf; rw [if_pos (right_of.2 h)]
theorem of_no {lo hi : Int} (h : ¬ ((-1073741824 ≤ lo ∧ lo ≤ 1073741824) ∧ (-1073741824 ≤ hi ∧ hi ≤ 1073741824) ∧ lo ≤ hi)) : ivOf lo hi = ivNone := by
  unfold ivOf; rw [if_neg (fun e => h (right_of.1 e))]
theorem right_none : ivRight ivNone = false := rfl
/-- Whatever Of tells is right, or None. -/
theorem of_cases (lo hi : Int) : (ivOf lo hi = ⟨lo, hi, false⟩ ∧ ((-1073741824 ≤ lo ∧ lo ≤ 1073741824) ∧ (-1073741824 ≤ hi ∧ hi ≤ 1073741824) ∧ lo ≤ hi)) ∨
    (ivOf lo hi = ivNone ∧ ¬ ((-1073741824 ≤ lo ∧ lo ≤ 1073741824) ∧ (-1073741824 ≤ hi ∧ hi ≤ 1073741824) ∧ lo ≤ hi)) := by
  by_cases h : (-1073741824 ≤ lo ∧ lo ≤ 1073741824) ∧ (-1073741824 ≤ hi ∧ hi ≤ 1073741824) ∧ lo ≤ hi
  · exact .inl ⟨of_yes h, h⟩
  · exact .inr ⟨of_no h, h⟩
theorem right_of_of {lo hi : Int} : ivRight (ivOf lo hi) = true ↔ (-1073741824 ≤ lo ∧ lo ≤ 1073741824) ∧ (-1073741824 ≤ hi ∧ hi ≤ 1073741824) ∧ lo ≤ hi := by
  rcases of_cases lo hi with ⟨e, h⟩ | ⟨e, h⟩
  · rw [e, right_of]
  · rw [e]; simp only [right_none]; simp [h]
theorem prod_in {a b : Iv} (h : ivBoth a b = true) : ∀ x y, (x = a.lo ∨ x = a.hi) → (y = b.lo ∨ y = b.hi) → -1152921504606846976 ≤ x * y ∧ x * y ≤ 1152921504606846976 := by
  have hb := both_bd h
  intro x y hx hy
  exact mul_bd (A := 1073741824) (B := 1073741824) (by omega) (by omega)
theorem mid_in {a : Iv} (h : ivRight a = true) : ivMid a = (a.lo + a.hi) / 2 ∧ a.lo ≤ ivMid a ∧ ivMid a ≤ a.hi := by
  have := right_bd h
  unfold ivMid
  rw [if_pos h, Int.fdiv_eq_ediv_of_nonneg _ (by omega)]
  omega

theorem told_bd (n : Int) : -1073741824 ≤ (told n).1 ∧ (told n).1 ≤ 1073741824 := by
  unfold told
  split
  · rename_i h; exact isIn_iff.1 h
  · exact ⟨by decide, by decide⟩
theorem mulN_bd (a b : Int) (up : Bool) : -1073741824 ≤ (mulN a b up).1 ∧ (mulN a b up).1 ≤ 1073741824 := by
  unfold mulN
  split
  · exact told_bd _
  · exact ⟨by decide, by decide⟩
theorem divN_bd (a b : Int) (up : Bool) : -1073741824 ≤ (divN a b up).1 ∧ (divN a b up).1 ≤ 1073741824 := by
  unfold divN
  split
  · exact told_bd _
  · exact ⟨by decide, by decide⟩
theorem min_div (p q r x y : Int) (up : Bool) : min 1073741824 (min p (min q (min r (divN x y up).1))) = min p (min q (min r (divN x y up).1)) := by
  have := divN_bd x y up
  omega
theorem max_div (p q r x y : Int) (up : Bool) : max (-1073741824) (max p (max q (max r (divN x y up).1))) = max p (max q (max r (divN x y up).1)) := by
  have := divN_bd x y up
  omega

/-- The four pairs of ends, one behind the other, as the plain saying goes through them: the least, the greatest, whether all were numbers, of the first k. -/
def loTo (d : Int → Int → Int × Bool) (a b : Iv) : Nat → Int
  | 0 => 0
  | 1 => (d a.lo b.lo).1
  | 2 => min (d a.lo b.lo).1 (d a.hi b.lo).1
  | 3 => min (min (d a.lo b.lo).1 (d a.hi b.lo).1) (d a.lo b.hi).1
  | _ => min (min (min (d a.lo b.lo).1 (d a.hi b.lo).1) (d a.lo b.hi).1) (d a.hi b.hi).1
def hiTo (d : Int → Int → Int × Bool) (a b : Iv) : Nat → Int
  | 0 => 0
  | 1 => (d a.lo b.lo).1
  | 2 => max (d a.lo b.lo).1 (d a.hi b.lo).1
  | 3 => max (max (d a.lo b.lo).1 (d a.hi b.lo).1) (d a.lo b.hi).1
  | _ => max (max (max (d a.lo b.lo).1 (d a.hi b.lo).1) (d a.lo b.hi).1) (d a.hi b.hi).1
def okTo (d u : Int → Int → Int × Bool) (a b : Iv) : Nat → Bool
  | 0 => true
  | 1 => ((d a.lo b.lo).2 && (u a.lo b.lo).2)
  | 2 => ((d a.lo b.lo).2 && (u a.lo b.lo).2) && ((d a.hi b.lo).2 && (u a.hi b.lo).2)
  | 3 => (((d a.lo b.lo).2 && (u a.lo b.lo).2) && ((d a.hi b.lo).2 && (u a.hi b.lo).2)) && ((d a.lo b.hi).2 && (u a.lo b.hi).2)
  | _ => ((((d a.lo b.lo).2 && (u a.lo b.lo).2) && ((d a.hi b.lo).2 && (u a.hi b.lo).2)) && ((d a.lo b.hi).2 && (u a.lo b.hi).2)) && ((d a.hi b.hi).2 && (u a.hi b.hi).2)
theorem ends_yes {d u : Int → Int → Int × Bool} {a b : Iv} (h : okTo d u a b 4 = true) : ivEnds d u a b = ivOf (loTo d a b 4) (hiTo u a b 4) := by
  simp only [okTo, Bool.and_eq_true] at h
  obtain ⟨⟨⟨⟨h1, h2⟩, h3, h4⟩, h5, h6⟩, h7, h8⟩ := h
  unfold ivEnds
  simp only [h1, h2, h3, h4, h5, h6, h7, h8, Bool.and_true, if_true, loTo, hiTo, min4, max4]
  congr 1 <;> omega
theorem ends_no {d u : Int → Int → Int × Bool} {a b : Iv} {k : Nat} (hk : k ≤ 4) (h : okTo d u a b k = false) : ivEnds d u a b = ivNone := by
  unfold ivEnds
  rw [if_neg]
  intro hc
  simp only [Bool.and_eq_true] at hc
  obtain ⟨⟨h1, h2⟩, ⟨h5, h6⟩, ⟨h3, h4⟩, h7, h8⟩ := hc
  match k, hk with
  | 0, _ => simp [okTo] at h
  | 1, _ => simp [okTo, *] at h
  | 2, _ => simp [okTo, *] at h
  | 3, _ => simp [okTo, *] at h
  | 4, _ => simp [okTo, *] at h

theorem none_in : isIn 0 = true := by decide
theorem sub_eq (a b : Iv) : ivSub a b = if ivBoth a b then ivOf (a.lo - b.hi) (a.hi - b.lo) else ivNone := by
  unfold ivSub ivAdd
  by_cases hb : ivRight b = true
  · have h := right_bd hb
    have e : ivNeg b = ⟨-b.hi, -b.lo, false⟩ := by
      unfold ivNeg; rw [if_pos hb, of_yes (by omega)]
    have e2 : ivBoth a (ivNeg b) = ivBoth a b := by
      unfold ivBoth; rw [e, hb, right_of.2 (by omega)]
    rw [e2, e]
    split
    · show ivOf (a.lo + -b.hi) (a.hi + -b.lo) = _
      rw [← Int.sub_eq_add_neg, ← Int.sub_eq_add_neg]
    · rfl
  · have e : ivNeg b = ivNone := by unfold ivNeg; rw [if_neg hb]
    have e2 : ivBoth a (ivNeg b) = false := by unfold ivBoth; rw [e, right_none]; simp
    have e3 : ivBoth a b = false := by
      cases h : ivBoth a b
      · rfl
      · exact absurd (both_iff.1 h).2 hb
    rw [e2, e3]
    rfl
/-- The root of a number of steps that is not below 0. -/
theorem rootN_yes {n : Int} (h : 0 ≤ n ∧ n ≤ 1073741824) (up : Bool) : rootN n up = (upRoot (n * 65536) up, true) ∧ 0 ≤ upRoot (n * 65536) up ∧ upRoot (n * 65536) up ≤ 8388609 := by
  have hi : isIn n = true := isIn_iff.2 (by omega)
  have h1 := in_root hi (by omega)
  have hb : 0 ≤ upRoot (n * 65536) up ∧ upRoot (n * 65536) up ≤ 8388609 := by
    unfold upRoot; split <;> omega
  refine ⟨?_, hb⟩
  unfold rootN
  rw [hi, show decide (n < 0) = false by simp; omega]
  show told _ = _
  unfold told
  rw [if_pos (isIn_iff.2 (by omega))]
theorem rootN_no {n : Int} (h : n < 0) (up : Bool) : rootN n up = (0, false) := by
  unfold rootN
  rw [show decide (n < 0) = true by simp; omega]
  simp
theorem root_eq (a : Iv) : ivRoot a = if ivRight a && !decide (a.lo < 0) then ivOf (rootN a.lo false).1 (rootN a.hi true).1 else ivNone := by
  unfold ivRoot
  cases h : ivRight a
  · rfl
  · have hb := right_bd h
    by_cases h0 : a.lo < 0
    · rw [rootN_no h0]
      simp [h0]
    · rw [(rootN_yes (n := a.lo) (by omega) false).1, (rootN_yes (n := a.hi) (by omega) true).1]
      simp [h0]

end Go.Proofs.YtgikkcnpnnbgdaaGreatDoor
