/-
  Intervals of steps, in plain numbers: what chapter 2's calls come to. Nothing of the program stands here.
  Intervals of steps, in plain numbers: the plain saying's products and squares are the document's.
  Intervals of steps, in plain numbers: of less each call tells less.
  Intervals of steps, in plain numbers: quotients; what is enclosed; what comes back.
  What the statements of chapter 2 come to, in plain numbers.
  Intervals of steps, in plain numbers: what is turned about 0; less in less, one behind the other; squares and quotients of one length.
  What can be said, in plain numbers: chapter 3's calls. Unsure is 0, Yes is 1, No is 2.
  Where a square sum is nothing, in plain numbers: the root that is told, less of less, what lies in it.
  A glass's index, in plain intervals: of less light less; of one sum alone, whose C is 0, its square has 1 and that B; of more B it is not less.
-/
import Derived.Test.YtolfobgpgmfnpaaGreatDoorGa

namespace Go.Proofs.YtolfobgpgmfnpaaGreatDoor
set_option linter.unusedVariables false

structure Iv where
  lo : Int
  hi : Int
  no : Bool
@[reducible] def ivV (a : Iv) : Value := .agg #[.int .i64 a.lo, .int .i64 a.hi, .bool a.no]
def ivRight (a : Iv) : Bool := !a.no && (isIn a.lo && (isIn a.hi && decide (a.lo ≤ a.hi)))
def ivNone : Iv := ⟨0, 0, true⟩
def ivOf (lo hi : Int) : Iv := if ivRight ⟨lo, hi, false⟩ then ⟨lo, hi, false⟩ else ivNone
def ivPoint (n : Int) : Iv := ivOf n n
def ivWhole (n : Int) : Iv := if isIn n then ivPoint (n * 65536) else ivNone
def ivBoth (a b : Iv) : Bool := ivRight a && ivRight b
def ivAdd (a b : Iv) : Iv := if ivBoth a b then ivOf (a.lo + b.lo) (a.hi + b.hi) else ivNone
def ivNeg (a : Iv) : Iv := if ivRight a then ivOf (-a.hi) (-a.lo) else ivNone
def ivSub (a b : Iv) : Iv := ivAdd a (ivNeg b)
def ivOut (lo hi : Int) : Iv := ivOf (lo.fdiv 65536) (-((-hi).fdiv 65536))
@[reducible] def min4 (p q r s : Int) : Int := min p (min q (min r s))
@[reducible] def max4 (p q r s : Int) : Int := max p (max q (max r s))
def ivMul (a b : Iv) : Iv := if ivBoth a b then ivOut (min4 (a.lo * b.lo) (a.lo * b.hi) (a.hi * b.lo) (a.hi * b.hi)) (max4 (a.lo * b.lo) (a.lo * b.hi) (a.hi * b.lo) (a.hi * b.hi)) else ivNone
def ivTimes (a : Iv) (k : Int) : Iv := if ivRight a && isIn k then ivOf (min (k * a.lo) (k * a.hi)) (max (k * a.lo) (k * a.hi)) else ivNone
def ivHas (a : Iv) (n : Int) : Bool := ivRight a && (decide (a.lo ≤ n) && decide (n ≤ a.hi))
def ivInside (a b : Iv) : Bool := ivBoth a b && (decide (b.lo ≤ a.lo) && decide (a.hi ≤ b.hi))
def ivSqr (a : Iv) : Iv :=
  if ivRight a then (if ivHas a 0 then ivOut 0 (max (a.lo * a.lo) (a.hi * a.hi)) else ivOut (min (a.lo * a.lo) (a.hi * a.hi)) (max (a.lo * a.lo) (a.hi * a.hi))) else ivNone
/-- Of four pairs of ends: the least of what is rounded down, to the greatest of what is rounded up; None, if one of them is none. -/
def ivEnds (d u : Int → Int → Int × Bool) (a b : Iv) : Iv :=
  if ((d a.lo b.lo).2 && (u a.lo b.lo).2) && (((d a.lo b.hi).2 && (u a.lo b.hi).2) && (((d a.hi b.lo).2 && (u a.hi b.lo).2) && ((d a.hi b.hi).2 && (u a.hi b.hi).2))) then
    ivOf (min4 (d a.lo b.lo).1 (d a.lo b.hi).1 (d a.hi b.lo).1 (d a.hi b.hi).1) (max4 (u a.lo b.lo).1 (u a.lo b.hi).1 (u a.hi b.lo).1 (u a.hi b.hi).1)
  else ivNone
def ivDiv (a b : Iv) : Iv := if ivBoth a b && !ivHas b 0 then ivEnds (fun x y => divN x y false) (fun x y => divN x y true) a b else ivNone
def ivRoot (a : Iv) : Iv := if ivRight a && ((rootN a.lo false).2 && (rootN a.hi true).2) then ivOf (rootN a.lo false).1 (rootN a.hi true).1 else ivNone
def ivHull (a b : Iv) : Iv := if ivBoth a b then ivOf (min a.lo b.lo) (max a.hi b.hi) else ivNone
def ivMeet (a b : Iv) : Iv := if ivBoth a b then ivOf (max a.lo b.lo) (min a.hi b.hi) else ivNone
def ivMid (a : Iv) : Int := if ivRight a then (a.lo + a.hi).fdiv 2 else 0
def ivSplit (a : Iv) : Iv × Iv := if ivRight a then (ivOf a.lo (ivMid a), ivOf (ivMid a) a.hi) else (ivNone, ivNone)

/-- What one pair of ends makes: a quotient, or a product. -/
def eN (div : Bool) (x y : Int) (up : Bool) : Int × Bool := if div then divN x y up else mulN x y up

theorem right_iff {a : Iv} : ivRight a = true ↔ a.no = false ∧ (-1073741824 ≤ a.lo ∧ a.lo ≤ 1073741824) ∧ (-1073741824 ≤ a.hi ∧ a.hi ≤ 1073741824) ∧ a.lo ≤ a.hi := by
  simp [ivRight, isIn_iff]
theorem right_bd {a : Iv} (h : ivRight a = true) : (-1073741824 ≤ a.lo ∧ a.lo ≤ 1073741824) ∧ (-1073741824 ≤ a.hi ∧ a.hi ≤ 1073741824) ∧ a.lo ≤ a.hi := (right_iff.1 h).2
theorem both_iff {a b : Iv} : ivBoth a b = true ↔ ivRight a = true ∧ ivRight b = true := by simp [ivBoth]
theorem both_bd {a b : Iv} (h : ivBoth a b = true) : ((-1073741824 ≤ a.lo ∧ a.lo ≤ 1073741824) ∧ (-1073741824 ≤ a.hi ∧ a.hi ≤ 1073741824) ∧ a.lo ≤ a.hi) ∧ ((-1073741824 ≤ b.lo ∧ b.lo ≤ 1073741824) ∧ (-1073741824 ≤ b.hi ∧ b.hi ≤ 1073741824) ∧ b.lo ≤ b.hi) :=
  ⟨right_bd (both_iff.1 h).1, right_bd (both_iff.1 h).2⟩
theorem right_of {lo hi : Int} : ivRight ⟨lo, hi, false⟩ = true ↔ (-1073741824 ≤ lo ∧ lo ≤ 1073741824) ∧ (-1073741824 ≤ hi ∧ hi ≤ 1073741824) ∧ lo ≤ hi := by
  rw [right_iff]; simp
theorem of_yes {lo hi : Int} (h : (-1073741824 ≤ lo ∧ lo ≤ 1073741824) ∧ (-1073741824 ≤ hi ∧ hi ≤ 1073741824) ∧ lo ≤ hi) : ivOf lo hi = ⟨lo, hi, false⟩ := by
  unfold ivOf; rw [if_pos (right_of.2 h)]
theorem of_no {lo hi : Int} (h : ¬ ((-1073741824 ≤ lo ∧ lo ≤ 1073741824) ∧ (-1073741824 ≤ hi ∧ hi ≤ 1073741824) ∧ lo ≤ hi)) : ivOf lo hi = ivNone := by
  unfold ivOf; rw [if_neg (fun e => h (right_of.1 e))]
theorem right_none : ivRight ivNone = false := rfl
/-- Whatever Of tells is right, or None. -/
theorem of_cases (lo hi : Int) : (ivOf lo hi = ⟨lo, hi, false⟩ ∧ ((-1073741824 ≤ lo ∧ lo ≤ 1073741824) ∧ (-1073741824 ≤ hi ∧ hi ≤ 1073741824) ∧ lo ≤ hi)) ∨
    (ivOf lo hi = ivNone ∧ ¬ ((-1073741824 ≤ lo ∧ lo ≤ 1073741824) ∧ (-1073741824 ≤ hi ∧ hi ≤ 1073741824) ∧ lo ≤ hi)) := by
  by_cases h : (-1073741824 ≤ lo ∧ lo ≤ 1073741824) ∧ (-1073741824 ≤ hi ∧ hi ≤ 1073741824) ∧ lo ≤ hi
  · exact .inl ⟨of_yes h, h⟩
  · exact .inr ⟨of_no h, h⟩
theorem right_of_of {lo hi : Int} : ivRight (ivOf lo hi) = true ↔ (-1073741824 ≤ lo ∧ lo ≤ 1073741824) ∧ (-1073741824 ≤ hi ∧ hi ≤ 1073741824) ∧ lo ≤ hi := by
  rcases of_cases lo hi with ⟨e, h⟩ | ⟨e, h⟩
  · rw [e, right_of]
  · rw [e]; simp only [right_none]; simp [h]
theorem prod_in {a b : Iv} (h : ivBoth a b = true) : ∀ x y, (x = a.lo ∨ x = a.hi) → (y = b.lo ∨ y = b.hi) → -1152921504606846976 ≤ x * y ∧ x * y ≤ 1152921504606846976 := by
  have hb := both_bd h
  intro x y hx hy
  exact mul_bd (A := 1073741824) (B := 1073741824) (by omega) (by omega)
theorem mid_in {a : Iv} (h : ivRight a = true) : ivMid a = (a.lo + a.hi) / 2 ∧ a.lo ≤ ivMid a ∧ ivMid a ≤ a.hi := by
  have := right_bd h
  unfold ivMid
  rw [if_pos h, Int.fdiv_eq_ediv_of_nonneg _ (by omega)]
  omega

theorem told_bd (n : Int) : -1073741824 ≤ (told n).1 ∧ (told n).1 ≤ 1073741824 := by
  unfold told
  split
  · rename_i h; exact isIn_iff.1 h
  · exact ⟨by decide, by decide⟩
theorem mulN_bd (a b : Int) (up : Bool) : -1073741824 ≤ (mulN a b up).1 ∧ (mulN a b up).1 ≤ 1073741824 := by
  unfold mulN
  split
  · exact told_bd _
  · exact ⟨by decide, by decide⟩
theorem divN_bd (a b : Int) (up : Bool) : -1073741824 ≤ (divN a b up).1 ∧ (divN a b up).1 ≤ 1073741824 := by
  unfold divN
  split
  · exact told_bd _
  · exact ⟨by decide, by decide⟩
theorem min_div (p q r x y : Int) (up : Bool) : min 1073741824 (min p (min q (min r (divN x y up).1))) = min p (min q (min r (divN x y up).1)) := by
  have := divN_bd x y up
  omega
theorem max_div (p q r x y : Int) (up : Bool) : max (-1073741824) (max p (max q (max r (divN x y up).1))) = max p (max q (max r (divN x y up).1)) := by
  have := divN_bd x y up
  omega

/-- The four pairs of ends, one behind the other, as the plain saying goes through them: the least, the greatest, whether all were numbers, of the first k. -/
def loTo (d : Int → Int → Int × Bool) (a b : Iv) : Nat → Int
  | 0 => 0
  | 1 => (d a.lo b.lo).1
  | 2 => min (d a.lo b.lo).1 (d a.hi b.lo).1
  | 3 => min (min (d a.lo b.lo).1 (d a.hi b.lo).1) (d a.lo b.hi).1
  | _ => min (min (min (d a.lo b.lo).1 (d a.hi b.lo).1) (d a.lo b.hi).1) (d a.hi b.hi).1
def hiTo (d : Int → Int → Int × Bool) (a b : Iv) : Nat → Int
  | 0 => 0
  | 1 => (d a.lo b.lo).1
  | 2 => max (d a.lo b.lo).1 (d a.hi b.lo).1
  | 3 => max (max (d a.lo b.lo).1 (d a.hi b.lo).1) (d a.lo b.hi).1
  | _ => max (max (max (d a.lo b.lo).1 (d a.hi b.lo).1) (d a.lo b.hi).1) (d a.hi b.hi).1
def okTo (d u : Int → Int → Int × Bool) (a b : Iv) : Nat → Bool
  | 0 => true
  | 1 => ((d a.lo b.lo).2 && (u a.lo b.lo).2)
  | 2 => ((d a.lo b.lo).2 && (u a.lo b.lo).2) && ((d a.hi b.lo).2 && (u a.hi b.lo).2)
  | 3 => (((d a.lo b.lo).2 && (u a.lo b.lo).2) && ((d a.hi b.lo).2 && (u a.hi b.lo).2)) && ((d a.lo b.hi).2 && (u a.lo b.hi).2)
  | _ => ((((d a.lo b.lo).2 && (u a.lo b.lo).2) && ((d a.hi b.lo).2 && (u a.hi b.lo).2)) && ((d a.lo b.hi).2 && (u a.lo b.hi).2)) && ((d a.hi b.hi).2 && (u a.hi b.hi).2)
theorem ends_yes {d u : Int → Int → Int × Bool} {a b : Iv} (h : okTo d u a b 4 = true) : ivEnds d u a b = ivOf (loTo d a b 4) (hiTo u a b 4) := by
  simp only [okTo, Bool.and_eq_true] at h
  obtain ⟨⟨⟨⟨h1, h2⟩, h3, h4⟩, h5, h6⟩, h7, h8⟩ := h
  unfold ivEnds
  simp only [h1, h2, h3, h4, h5, h6, h7, h8, Bool.and_true, if_true, loTo, hiTo, min4, max4]
  congr 1 <;> omega
theorem ends_no {d u : Int → Int → Int × Bool} {a b : Iv} {k : Nat} (hk : k ≤ 4) (h : okTo d u a b k = false) : ivEnds d u a b = ivNone := by
  unfold ivEnds
  rw [if_neg]
  intro hc
  simp only [Bool.and_eq_true] at hc
  obtain ⟨⟨h1, h2⟩, ⟨h5, h6⟩, ⟨h3, h4⟩, h7, h8⟩ := hc
  match k, hk with
  | 0, _ => simp [okTo] at h
  | 1, _ => simp [okTo, *] at h
  | 2, _ => simp [okTo, *] at h
  | 3, _ => simp [okTo, *] at h
  | 4, _ => simp [okTo, *] at h

theorem none_in : isIn 0 = true := by decide
theorem sub_eq (a b : Iv) : ivSub a b = if ivBoth a b then ivOf (a.lo - b.hi) (a.hi - b.lo) else ivNone := by
  unfold ivSub ivAdd
  by_cases hb : ivRight b = true
  · have h := right_bd hb
    have e : ivNeg b = ⟨-b.hi, -b.lo, false⟩ := by
      unfold ivNeg; rw [if_pos hb, of_yes (by omega)]
    have e2 : ivBoth a (ivNeg b) = ivBoth a b := by
      unfold ivBoth; rw [e, hb, right_of.2 (by omega)]
    rw [e2, e]
    split
    · show ivOf (a.lo + -b.hi) (a.hi + -b.lo) = _
      rw [← Int.sub_eq_add_neg, ← Int.sub_eq_add_neg]
    · rfl
  · have e : ivNeg b = ivNone := by unfold ivNeg; rw [if_neg hb]
    have e2 : ivBoth a (ivNeg b) = false := by unfold ivBoth; rw [e, right_none]; simp
    have e3 : ivBoth a b = false := by
      cases h : ivBoth a b
      · rfl
      · exact absurd (both_iff.1 h).2 hb
    rw [e2, e3]
    rfl
/-- The root of a number of steps that is not below 0. -/
theorem rootN_yes {n : Int} (h : 0 ≤ n ∧ n ≤ 1073741824) (up : Bool) : rootN n up = (upRoot (n * 65536) up, true) ∧ 0 ≤ upRoot (n * 65536) up ∧ upRoot (n * 65536) up ≤ 8388609 := by
  have hi : isIn n = true := isIn_iff.2 (by omega)
  have h1 := in_root hi (by omega)
  have hb : 0 ≤ upRoot (n * 65536) up ∧ upRoot (n * 65536) up ≤ 8388609 := by
    unfold upRoot; split <;> omega
  refine ⟨?_, hb⟩
  unfold rootN
  rw [hi, show decide (n < 0) = false by simp; omega]
  show told _ = _
  unfold told
  rw [if_pos (isIn_iff.2 (by omega))]
theorem rootN_no {n : Int} (h : n < 0) (up : Bool) : rootN n up = (0, false) := by
  unfold rootN
  rw [show decide (n < 0) = true by simp; omega]
  simp
theorem root_eq (a : Iv) : ivRoot a = if ivRight a && !decide (a.lo < 0) then ivOf (rootN a.lo false).1 (rootN a.hi true).1 else ivNone := by
  unfold ivRoot
  cases h : ivRight a
  · rfl
  · have hb := right_bd h
    by_cases h0 : a.lo < 0
    · rw [rootN_no h0]
      simp [h0]
    · rw [(rootN_yes (n := a.lo) (by omega) false).1, (rootN_yes (n := a.hi) (by omega) true).1]
      simp [h0]

end Go.Proofs.YtolfobgpgmfnpaaGreatDoor

namespace Go.Proofs.YtolfobgpgmfnpaaGreatDoor
set_option linter.unusedVariables false

theorem fdiv_one (n : Int) : n.fdiv 65536 = n / 65536 := Int.fdiv_eq_ediv_of_nonneg _ (by omega)
theorem told_in {n : Int} (h : -1073741824 ≤ n ∧ n ≤ 1073741824) : told n = (n, true) := by
  unfold told
  rw [if_pos (isIn_iff.2 h)]
theorem told_out {n : Int} (h : ¬ (-1073741824 ≤ n ∧ n ≤ 1073741824)) : told n = (0, false) := by
  unfold told
  rw [if_neg (fun e => h (isIn_iff.1 e))]
theorem mulN_in {x y : Int} (up : Bool) (hx : -1073741824 ≤ x ∧ x ≤ 1073741824) (hy : -1073741824 ≤ y ∧ y ≤ 1073741824) : mulN x y up = told (quo (x * y) 65536 up) := by
  unfold mulN
  rw [isIn_iff.2 hx, isIn_iff.2 hy]
  rfl
/-- Rounded outward: the least of four quotients by One is that of the least; none of them is a number, if one of them is none. -/
theorem out_four (p q r s : Int) : ivOut (min4 p q r s) (max4 p q r s) =
    if ((told (p / 65536)).2 && (told (-((-p) / 65536))).2) && (((told (q / 65536)).2 && (told (-((-q) / 65536))).2) && (((told (r / 65536)).2 && (told (-((-r) / 65536))).2) && ((told (s / 65536)).2 && (told (-((-s) / 65536))).2))) then
      ivOf (min4 (told (p / 65536)).1 (told (q / 65536)).1 (told (r / 65536)).1 (told (s / 65536)).1) (max4 (told (-((-p) / 65536))).1 (told (-((-q) / 65536))).1 (told (-((-r) / 65536))).1 (told (-((-s) / 65536))).1)
    else ivNone := by
  unfold ivOut
  rw [fdiv_one, fdiv_one]
  by_cases h : (-1073741824 ≤ p / 65536 ∧ -((-p) / 65536) ≤ 1073741824) ∧ (-1073741824 ≤ q / 65536 ∧ -((-q) / 65536) ≤ 1073741824) ∧ (-1073741824 ≤ r / 65536 ∧ -((-r) / 65536) ≤ 1073741824) ∧ (-1073741824 ≤ s / 65536 ∧ -((-s) / 65536) ≤ 1073741824)
  · rw [told_in (n := p / 65536) (by omega), told_in (n := -((-p) / 65536)) (by omega), told_in (n := q / 65536) (by omega), told_in (n := -((-q) / 65536)) (by omega),
      told_in (n := r / 65536) (by omega), told_in (n := -((-r) / 65536)) (by omega), told_in (n := s / 65536) (by omega), told_in (n := -((-s) / 65536)) (by omega)]
    show _ = ivOf _ _
    congr 1
    · show min p (min q (min r s)) / 65536 = min (p / 65536) (min (q / 65536) (min (r / 65536) (s / 65536)))
      omega
    · show -((-(max p (max q (max r s)))) / 65536) = max (-((-p) / 65536)) (max (-((-q) / 65536)) (max (-((-r) / 65536)) (-((-s) / 65536))))
      omega
  · have e : (((told (p / 65536)).2 && (told (-((-p) / 65536))).2) && (((told (q / 65536)).2 && (told (-((-q) / 65536))).2) && (((told (r / 65536)).2 && (told (-((-r) / 65536))).2) && ((told (s / 65536)).2 && (told (-((-s) / 65536))).2)))) = false := by
      rw [Bool.eq_false_iff]
      intro hc
      simp only [Bool.and_eq_true] at hc
      have tw : ∀ n, (told n).2 = true → -1073741824 ≤ n ∧ n ≤ 1073741824 := by
        intro n hn
        by_cases h1 : -1073741824 ≤ n ∧ n ≤ 1073741824
        · exact h1
        · rw [told_out h1] at hn; simp at hn
      obtain ⟨⟨h1, h2⟩, ⟨h3, h4⟩, ⟨h5, h6⟩, h7, h8⟩ := hc
      have := tw _ h1
      have := tw _ h2
      have := tw _ h3
      have := tw _ h4
      have := tw _ h5
      have := tw _ h6
      have := tw _ h7
      have := tw _ h8
      omega
    rw [e]
    show _ = ivNone
    apply of_no
    show ¬ ((-1073741824 ≤ min p (min q (min r s)) / 65536 ∧ _) ∧ (_ ∧ -((-(max p (max q (max r s)))) / 65536) ≤ 1073741824) ∧ _)
    omega
theorem mul_eq (a b : Iv) : ivMul a b = if ivBoth a b then ivEnds (fun x y => mulN x y false) (fun x y => mulN x y true) a b else ivNone := by
  unfold ivMul
  by_cases h : ivBoth a b = true
  · rw [if_pos h, if_pos h]
    have hb := both_bd h
    have m1 := mulN_in (x := a.lo) (y := b.lo) false (by omega) (by omega)
    have m2 := mulN_in (x := a.lo) (y := b.lo) true (by omega) (by omega)
    have m3 := mulN_in (x := a.lo) (y := b.hi) false (by omega) (by omega)
    have m4 := mulN_in (x := a.lo) (y := b.hi) true (by omega) (by omega)
    have m5 := mulN_in (x := a.hi) (y := b.lo) false (by omega) (by omega)
    have m6 := mulN_in (x := a.hi) (y := b.lo) true (by omega) (by omega)
    have m7 := mulN_in (x := a.hi) (y := b.hi) false (by omega) (by omega)
    have m8 := mulN_in (x := a.hi) (y := b.hi) true (by omega) (by omega)
    simp only [ivEnds, m1, m2, m3, m4, m5, m6, m7, m8, quo_dn, quo_up, fdiv_one]
    exact out_four _ _ _ _
  · rw [if_neg h, if_neg h]
theorem abs_sq (x : Int) : max x (-x) * max x (-x) = x * x := by
  by_cases h : 0 ≤ x
  · rw [Int.max_eq_left (by omega)]
  · rw [Int.max_eq_right (by omega)]
    rw [Int.neg_mul_neg]
theorem sq_le {x y : Int} (hx : 0 ≤ x) (h : x ≤ y) : x * x ≤ y * y := Int.mul_le_mul h h hx (by omega)
/-- The nearest to 0, the farthest from it, of what lies between two ends. -/
def ivNear (a : Iv) : Int := min (max a.lo (-a.lo)) (max a.hi (-a.hi))
def ivFar (a : Iv) : Int := max a.lo (max (-a.lo) (max a.hi (-a.hi)))
theorem near_sq (a : Iv) : ivNear a * ivNear a = min (a.lo * a.lo) (a.hi * a.hi) := by
  have h1 := abs_sq a.lo
  have h2 := abs_sq a.hi
  unfold ivNear
  by_cases h : max a.lo (-a.lo) ≤ max a.hi (-a.hi)
  · have := sq_le (by omega) h
    rw [Int.min_eq_left h, Int.min_eq_left (by omega)]
    exact h1
  · have := sq_le (x := max a.hi (-a.hi)) (y := max a.lo (-a.lo)) (by omega) (by omega)
    rw [Int.min_eq_right (by omega), Int.min_eq_right (by omega)]
    exact h2
theorem far_sq (a : Iv) : ivFar a * ivFar a = max (a.lo * a.lo) (a.hi * a.hi) := by
  have h1 := abs_sq a.lo
  have h2 := abs_sq a.hi
  by_cases h : max a.lo (-a.lo) ≤ max a.hi (-a.hi)
  · have h3 := sq_le (by omega) h
    have e : ivFar a = max a.hi (-a.hi) := by unfold ivFar; omega
    rw [e, h2]
    omega
  · have h3 := sq_le (x := max a.hi (-a.hi)) (y := max a.lo (-a.lo)) (by omega) (by omega)
    have e : ivFar a = max a.lo (-a.lo) := by unfold ivFar; omega
    rw [e, h1]
    omega
theorem near_bd {a : Iv} (h : ivRight a = true) : (0 ≤ ivNear a ∧ ivNear a ≤ 1073741824) ∧ 0 ≤ ivFar a ∧ ivFar a ≤ 1073741824 := by
  have := right_bd h
  unfold ivNear ivFar
  omega
theorem sq_out (n f : Int) (h : 0 ≤ n ∧ n ≤ f) : ivOut n f = if (told (-((-f) / 65536))).2 then ivOf (told (n / 65536)).1 (told (-((-f) / 65536))).1 else ivNone := by
  unfold ivOut
  rw [fdiv_one, fdiv_one]
  by_cases hf : -((-f) / 65536) ≤ 1073741824
  · rw [told_in (n := -((-f) / 65536)) (by omega), told_in (n := n / 65536) (by omega)]
    rfl
  · rw [told_out (n := -((-f) / 65536)) (by omega), of_no (by omega)]
    rfl
theorem sqr_eq (a : Iv) : ivSqr a = if ivRight a then (if (mulN (ivFar a) (ivFar a) true).2 then (if ivHas a 0 then ivOf (mulN 0 0 false).1 (mulN (ivFar a) (ivFar a) true).1 else ivOf (mulN (ivNear a) (ivNear a) false).1 (mulN (ivFar a) (ivFar a) true).1) else ivNone) else ivNone := by
  unfold ivSqr
  by_cases h : ivRight a = true
  · rw [if_pos h, if_pos h]
    obtain ⟨⟨n1, n2⟩, f1, f2⟩ := near_bd h
    have e1 : mulN 0 0 false = told (0 / 65536) := by decide
    have l1 := sq_le f1 f2
    have s1 : 0 ≤ a.lo * a.lo := by rw [← abs_sq]; exact Int.mul_nonneg (by omega) (by omega)
    have s2 : 0 ≤ a.hi * a.hi := by rw [← abs_sq]; exact Int.mul_nonneg (by omega) (by omega)
    rw [mulN_in (x := ivFar a) (y := ivFar a) true (by omega) (by omega), mulN_in (x := ivNear a) (y := ivNear a) false (by omega) (by omega), e1, near_sq, far_sq, quo_dn, quo_up, fdiv_one, fdiv_one]
    rw [sq_out 0 _ (by omega), sq_out _ _ (show 0 ≤ min (a.lo * a.lo) (a.hi * a.hi) ∧ min (a.lo * a.lo) (a.hi * a.hi) ≤ max (a.lo * a.lo) (a.hi * a.hi) by omega)]
    split <;> split <;> rfl
  · rw [if_neg h, if_neg h]

/-- The intervals that are handed in, of raw numbers. -/
def within (n a b : Int) : Int := max a (min b n)
def hWide (x w : Int) : Iv := ⟨within x (-1073741824) 1073741824, min 1073741824 (within x (-1073741824) 1073741824 + w), false⟩
def hTame (n w : Int) : Iv := hWide (n % 2621440 - 1310720) (w % 3000)
def hIv (n w : Int) : Iv :=
  if w % 12 = 0 then ⟨hnum n, hnum (w.tdiv 12), false⟩ else if w % 12 = 1 then ⟨hnum n, hnum n, w.tdiv 12 % 5 == 4⟩ else if w % 12 = 2 ∨ w % 12 = 3 then ⟨hnum n, hnum n, false⟩
  else hWide (hnum n) (w.tdiv 12 % 9000)
def hIn (a : Iv) (x y : Int) : Iv :=
  if ivRight a then ⟨a.lo + x % (a.hi - a.lo + 1), a.lo + x % (a.hi - a.lo + 1) + y % (a.hi - (a.lo + x % (a.hi - a.lo + 1)) + 1), false⟩ else a
theorem within_bd (n a b : Int) (h : a ≤ b) : a ≤ within n a b ∧ within n a b ≤ b := by
  unfold within
  omega
theorem hWide_right {x w : Int} (h : 0 ≤ w) : ivRight (hWide x w) = true := by
  have := within_bd x (-1073741824) 1073741824 (by omega)
  unfold hWide
  rw [right_of]
  omega
theorem hIn_right {a : Iv} (x y : Int) (h : ivRight a = true) : ivRight (hIn a x y) = true ∧ a.lo ≤ (hIn a x y).lo ∧ (hIn a x y).hi ≤ a.hi ∧ (hIn a x y).lo ≤ (hIn a x y).hi := by
  have hb := right_bd h
  have h1 := Int.emod_nonneg x (show a.hi - a.lo + 1 ≠ 0 by omega)
  have h2 := Int.emod_lt_of_pos x (show 0 < a.hi - a.lo + 1 by omega)
  unfold hIn
  rw [if_pos h]
  generalize x % (a.hi - a.lo + 1) = u at *
  have h3 := Int.emod_nonneg y (show a.hi - (a.lo + u) + 1 ≠ 0 by omega)
  have h4 := Int.emod_lt_of_pos y (show 0 < a.hi - (a.lo + u) + 1 by omega)
  generalize y % (a.hi - (a.lo + u) + 1) = v at *
  rw [right_of]
  dsimp only
  omega

end Go.Proofs.YtolfobgpgmfnpaaGreatDoor

namespace Go.Proofs.YtolfobgpgmfnpaaGreatDoor
set_option linter.unusedVariables false

/-- The answer of less lies in the answer of more, if that is one. -/
def ivLess (a b : Iv) : Bool := !ivRight b || ivInside a b
theorem inside_iff {a b : Iv} : ivInside a b = true ↔ ivRight a = true ∧ ivRight b = true ∧ b.lo ≤ a.lo ∧ a.hi ≤ b.hi := by
  simp [ivInside, ivBoth, and_assoc]
theorem less_of {lo hi lo' hi' : Int} (h : (-1073741824 ≤ lo ∧ lo ≤ 1073741824) ∧ (-1073741824 ≤ hi ∧ hi ≤ 1073741824) ∧ lo ≤ hi → lo ≤ lo' ∧ lo' ≤ hi' ∧ hi' ≤ hi) : ivLess (ivOf lo' hi') (ivOf lo hi) = true := by
  unfold ivLess
  rcases of_cases lo hi with ⟨e, h1⟩ | ⟨e, h1⟩
  · have h2 := h h1
    rw [e, of_yes (lo := lo') (hi := hi') (by omega)]
    have : ivInside ⟨lo', hi', false⟩ ⟨lo, hi, false⟩ = true := inside_iff.2 ⟨right_of.2 (by omega), right_of.2 (by omega), h2.1, h2.2.2⟩
    rw [this]
    simp
  · rw [e, right_none]
    rfl
/-- p is less of x. -/
def Part (p x : Iv) : Prop := ivRight p = true ∧ ivRight x = true ∧ x.lo ≤ p.lo ∧ p.hi ≤ x.hi
theorem hIn_part {a : Iv} (x y : Int) (h : ivRight a = true) : Part (hIn a x y) a :=
  ⟨(hIn_right x y h).1, h, (hIn_right x y h).2.1, (hIn_right x y h).2.2.1⟩
theorem part_bd {p x : Iv} (h : Part p x) : ((-1073741824 ≤ p.lo ∧ p.lo ≤ 1073741824) ∧ (-1073741824 ≤ p.hi ∧ p.hi ≤ 1073741824) ∧ p.lo ≤ p.hi) ∧ ((-1073741824 ≤ x.lo ∧ x.lo ≤ 1073741824) ∧ (-1073741824 ≤ x.hi ∧ x.hi ≤ 1073741824) ∧ x.lo ≤ x.hi) ∧ x.lo ≤ p.lo ∧ p.hi ≤ x.hi :=
  ⟨right_bd h.1, right_bd h.2.1, h.2.2⟩
theorem part_both {p q x y : Iv} (h : Part p x) (k : Part q y) : ivBoth p q = true ∧ ivBoth x y = true := ⟨both_iff.2 ⟨h.1, k.1⟩, both_iff.2 ⟨h.2.1, k.2.1⟩⟩
theorem less_add {p q x y : Iv} (h : Part p x) (k : Part q y) : ivLess (ivAdd p q) (ivAdd x y) = true := by
  have b := part_bd h
  have c := part_bd k
  unfold ivAdd
  rw [if_pos (part_both h k).1, if_pos (part_both h k).2]
  exact less_of (by omega)
theorem less_neg {p x : Iv} (h : Part p x) : ivLess (ivNeg p) (ivNeg x) = true := by
  have b := part_bd h
  unfold ivNeg
  rw [if_pos h.1, if_pos h.2.1]
  exact less_of (by omega)
theorem less_sub {p q x y : Iv} (h : Part p x) (k : Part q y) : ivLess (ivSub p q) (ivSub x y) = true := by
  have b := part_bd h
  have c := part_bd k
  rw [sub_eq, sub_eq, if_pos (part_both h k).1, if_pos (part_both h k).2]
  exact less_of (by omega)
theorem less_hull {p q x y : Iv} (h : Part p x) (k : Part q y) : ivLess (ivHull p q) (ivHull x y) = true := by
  have b := part_bd h
  have c := part_bd k
  unfold ivHull
  rw [if_pos (part_both h k).1, if_pos (part_both h k).2]
  exact less_of (by omega)
/-- A product lies between those of the ends. -/
theorem mul_between {l u h : Int} (v : Int) (h1 : l ≤ u) (h2 : u ≤ h) : min (l * v) (h * v) ≤ u * v ∧ u * v ≤ max (l * v) (h * v) := by
  by_cases hv : 0 ≤ v
  · have := Int.mul_le_mul_of_nonneg_right h1 hv
    have := Int.mul_le_mul_of_nonneg_right h2 hv
    omega
  · have := Int.mul_le_mul_of_nonpos_right h1 (show v ≤ 0 by omega)
    have := Int.mul_le_mul_of_nonpos_right h2 (show v ≤ 0 by omega)
    omega
theorem mul_between2 {l h u l2 h2 v : Int} (a : l ≤ u) (b : u ≤ h) (c : l2 ≤ v) (d : v ≤ h2) :
    min4 (l * l2) (l * h2) (h * l2) (h * h2) ≤ u * v ∧ u * v ≤ max4 (l * l2) (l * h2) (h * l2) (h * h2) := by
  have e1 := mul_between v a b
  have e2 := mul_between l c d
  have e3 := mul_between h c d
  rw [Int.mul_comm l2 l, Int.mul_comm h2 l, Int.mul_comm v l] at e2
  rw [Int.mul_comm l2 h, Int.mul_comm h2 h, Int.mul_comm v h] at e3
  unfold min4 max4
  omega
theorem less_out {lo hi lo' hi' : Int} (h : lo ≤ lo' ∧ lo' ≤ hi' ∧ hi' ≤ hi) : ivLess (ivOut lo' hi') (ivOut lo hi) = true := by
  unfold ivOut
  rw [fdiv_one, fdiv_one, fdiv_one, fdiv_one]
  exact less_of (by omega)
theorem less_mul {p q x y : Iv} (h : Part p x) (k : Part q y) : ivLess (ivMul p q) (ivMul x y) = true := by
  have b := part_bd h
  have c := part_bd k
  unfold ivMul
  rw [if_pos (part_both h k).1, if_pos (part_both h k).2]
  have m1 := mul_between2 (l := x.lo) (h := x.hi) (u := p.lo) (l2 := y.lo) (h2 := y.hi) (v := q.lo) (by omega) (by omega) (by omega) (by omega)
  have m2 := mul_between2 (l := x.lo) (h := x.hi) (u := p.lo) (l2 := y.lo) (h2 := y.hi) (v := q.hi) (by omega) (by omega) (by omega) (by omega)
  have m3 := mul_between2 (l := x.lo) (h := x.hi) (u := p.hi) (l2 := y.lo) (h2 := y.hi) (v := q.lo) (by omega) (by omega) (by omega) (by omega)
  have m4 := mul_between2 (l := x.lo) (h := x.hi) (u := p.hi) (l2 := y.lo) (h2 := y.hi) (v := q.hi) (by omega) (by omega) (by omega) (by omega)
  refine less_out ?_
  generalize min4 (x.lo * y.lo) (x.lo * y.hi) (x.hi * y.lo) (x.hi * y.hi) = M at *
  generalize max4 (x.lo * y.lo) (x.lo * y.hi) (x.hi * y.lo) (x.hi * y.hi) = N at *
  unfold min4 max4
  omega
theorem less_times {p x : Iv} (k : Int) (h : Part p x) : ivLess (ivTimes p k) (ivTimes x k) = true := by
  have b := part_bd h
  unfold ivTimes
  rw [h.1, h.2.1]
  cases hk : isIn k
  · rfl
  · have m1 := mul_between (l := x.lo) (h := x.hi) (u := p.lo) k (by omega) (by omega)
    have m2 := mul_between (l := x.lo) (h := x.hi) (u := p.hi) k (by omega) (by omega)
    rw [Int.mul_comm x.lo k, Int.mul_comm x.hi k, Int.mul_comm p.lo k] at m1
    rw [Int.mul_comm x.lo k, Int.mul_comm x.hi k, Int.mul_comm p.hi k] at m2
    exact less_of (by omega)
theorem sq_between {l u h : Int} (a : l ≤ u) (b : u ≤ h) : u * u ≤ max (l * l) (h * h) ∧ (¬ (l ≤ 0 ∧ 0 ≤ h) → min (l * l) (h * h) ≤ u * u) ∧ 0 ≤ u * u := by
  have n : 0 ≤ u * u := by rw [← abs_sq]; exact Int.mul_nonneg (by omega) (by omega)
  by_cases hu : 0 ≤ u
  · have h1 := sq_le hu b
    by_cases hl : 0 ≤ l
    · have h2 := sq_le hl a
      omega
    · omega
  · have e1 : u * u = (-u) * (-u) := (Int.neg_mul_neg u u).symm
    have e2 : l * l = (-l) * (-l) := (Int.neg_mul_neg l l).symm
    have e3 : h * h = (-h) * (-h) := (Int.neg_mul_neg h h).symm
    have h1 := sq_le (x := -u) (y := -l) (by omega) (by omega)
    rw [← e1, ← e2] at h1
    by_cases hh : h ≤ 0
    · have h2 := sq_le (x := -h) (y := -u) (by omega) (by omega)
      rw [← e1, ← e3] at h2
      omega
    · omega
theorem has_zero {a : Iv} (h : ivRight a = true) : ivHas a 0 = decide (a.lo ≤ 0 ∧ 0 ≤ a.hi) := by
  unfold ivHas
  rw [h]
  simp
theorem less_sqr {p x : Iv} (h : Part p x) : ivLess (ivSqr p) (ivSqr x) = true := by
  have b := part_bd h
  unfold ivSqr
  rw [if_pos h.1, if_pos h.2.1, has_zero h.1, has_zero h.2.1]
  have s1 := sq_between (l := x.lo) (u := p.lo) (h := x.hi) (by omega) (by omega)
  have s2 := sq_between (l := x.lo) (u := p.hi) (h := x.hi) (by omega) (by omega)
  by_cases h1 : x.lo ≤ 0 ∧ 0 ≤ x.hi
  · rw [if_pos (c := decide (x.lo ≤ 0 ∧ 0 ≤ x.hi) = true) (by simpa using h1)]
    split
    · exact less_out (by omega)
    · exact less_out (by omega)
  · rw [if_neg (c := decide (x.lo ≤ 0 ∧ 0 ≤ x.hi) = true) (by simpa using h1), if_neg (by simp; omega)]
    have t1 := s1.2.1 h1
    have t2 := s2.2.1 h1
    exact less_out (by omega)
theorem flRoot_mono {n m : Int} (h0 : 0 ≤ n) (h : n ≤ m) (h1 : m < 281474976710656) : flRoot n ≤ flRoot m := by
  have ⟨a, b, c⟩ := flRoot_bd n h0 (by omega)
  have ⟨d, e, f⟩ := flRoot_bd m (by omega) h1
  exact flRoot_le n (flRoot m) h0 (by omega) d (by omega)
theorem upRoot_mono {n m : Int} (h0 : 0 ≤ n) (h : n ≤ m) (h1 : m < 281474976710656) : upRoot n true ≤ upRoot m true := by
  have ⟨a, b, c⟩ := flRoot_bd n h0 (by omega)
  have ⟨d, e, f⟩ := flRoot_bd m (by omega) h1
  have g := flRoot_mono h0 h h1
  unfold upRoot
  by_cases hn : flRoot n * flRoot n = n <;> by_cases hm : flRoot m * flRoot m = m
  · simp [hn, hm]; exact g
  · simp [hn, hm]; omega
  · have : flRoot n < flRoot m := by
      by_cases h2 : flRoot n < flRoot m
      · exact h2
      · have h3 : flRoot n = flRoot m := by omega
        rw [h3] at hn b
        omega
    simp [hn, hm]
    omega
  · simp [hn, hm]; omega
theorem up_ge (n : Int) : flRoot n ≤ upRoot n true ∧ upRoot n true ≤ flRoot n + 1 ∧ upRoot n false = flRoot n := by
  unfold upRoot
  refine ⟨?_, ?_, by simp⟩
  · split <;> omega
  · split <;> omega
theorem less_root {p x : Iv} (h : Part p x) : ivLess (ivRoot p) (ivRoot x) = true := by
  have b := part_bd h
  rw [root_eq, root_eq, h.1, h.2.1]
  by_cases h0 : x.lo < 0
  · simp only [h0]
    simp [ivLess, right_none]
  · have h1 : ¬ p.lo < 0 := by omega
    simp only [h0, h1]
    rw [(rootN_yes (n := x.lo) (by omega) false).1, (rootN_yes (n := x.hi) (by omega) true).1, (rootN_yes (n := p.lo) (by omega) false).1, (rootN_yes (n := p.hi) (by omega) true).1]
    have r1 := flRoot_mono (n := x.lo * 65536) (m := p.lo * 65536) (by omega) (by omega) (by omega)
    have r2 := upRoot_mono (n := p.hi * 65536) (m := x.hi * 65536) (by omega) (by omega) (by omega)
    have r3 := flRoot_mono (n := p.lo * 65536) (m := p.hi * 65536) (by omega) (by omega) (by omega)
    have u1 := up_ge (x.lo * 65536)
    have u2 := up_ge (p.lo * 65536)
    have u3 := up_ge (p.hi * 65536)
    exact less_of (by simp only; omega)

end Go.Proofs.YtolfobgpgmfnpaaGreatDoor

namespace Go.Proofs.YtolfobgpgmfnpaaGreatDoor
set_option linter.unusedVariables false

/-- The quotient of two numbers of steps, rounded down, rounded up. -/
def qF (x y : Int) : Int := (x * 65536).fdiv y
def qC (x y : Int) : Int := -((-(x * 65536)).fdiv y)
theorem fl_pos {k n v : Int} (h : 0 < v) : k ≤ n.fdiv v ↔ k * v ≤ n := by
  rw [Int.fdiv_eq_ediv_of_nonneg _ (by omega)]
  exact Int.le_ediv_iff_mul_le h
theorem fl_neg {k n v : Int} (h : v < 0) : k ≤ n.fdiv v ↔ n ≤ k * v := by
  rw [← Int.neg_fdiv_neg, fl_pos (by omega), Int.mul_neg]
  omega
theorem ce_pos {k n v : Int} (h : 0 < v) : -((-n).fdiv v) ≤ k ↔ n ≤ k * v := by
  have := fl_pos (k := -k) (n := -n) h
  rw [Int.neg_mul] at this
  omega
theorem ce_neg {k n v : Int} (h : v < 0) : -((-n).fdiv v) ≤ k ↔ k * v ≤ n := by
  have := fl_neg (k := -k) (n := -n) h
  rw [Int.neg_mul] at this
  omega
theorem fl_le_ce (n : Int) {v : Int} (h : v ≠ 0) : n.fdiv v ≤ -((-n).fdiv v) := by
  rw [ceil_eq n v h]
  split <;> omega
theorem q_between {xl xh yl yh u v m M : Int} (hx : xl ≤ u ∧ u ≤ xh) (hy : yl ≤ v ∧ v ≤ yh) (h0 : ¬ (yl ≤ 0 ∧ 0 ≤ yh))
    (hm : m ≤ qF xl yl ∧ m ≤ qF xl yh ∧ m ≤ qF xh yl ∧ m ≤ qF xh yh) (hM : qC xl yl ≤ M ∧ qC xl yh ≤ M ∧ qC xh yl ≤ M ∧ qC xh yh ≤ M) : m ≤ qF u v ∧ qF u v ≤ qC u v ∧ qC u v ≤ M := by
  have t1 := mul_between m hy.1 hy.2
  have t2 := mul_between M hy.1 hy.2
  rw [Int.mul_comm yl, Int.mul_comm yh, Int.mul_comm v] at t1 t2
  unfold qF qC at *
  by_cases hp : 0 < yl
  · simp only [fl_pos hp, fl_pos (show 0 < yh by omega)] at hm
    simp only [ce_pos hp, ce_pos (show 0 < yh by omega)] at hM
    refine ⟨(fl_pos (by omega)).2 (by omega), fl_le_ce _ (by omega), (ce_pos (by omega)).2 (by omega)⟩
  · simp only [fl_neg (show yl < 0 by omega), fl_neg (show yh < 0 by omega)] at hm
    simp only [ce_neg (show yl < 0 by omega), ce_neg (show yh < 0 by omega)] at hM
    refine ⟨(fl_neg (by omega)).2 (by omega), fl_le_ce _ (by omega), (ce_neg (by omega)).2 (by omega)⟩
theorem divN_in {x y : Int} (hx : -1073741824 ≤ x ∧ x ≤ 1073741824) (hy : -1073741824 ≤ y ∧ y ≤ 1073741824) (h0 : y ≠ 0) : divN x y false = told (qF x y) ∧ divN x y true = told (qC x y) := by
  unfold divN
  rw [isIn_iff.2 hx, isIn_iff.2 hy, show (y == 0) = false by simpa using h0]
  exact ⟨rfl, rfl⟩
theorem told_ok {n : Int} : (told n).2 = true ↔ -1073741824 ≤ n ∧ n ≤ 1073741824 := by
  by_cases h : -1073741824 ≤ n ∧ n ≤ 1073741824
  · rw [told_in h]; simp [h]
  · rw [told_out h]; simp [h]
/-- What lies off 0. -/
def Off (y : Iv) : Prop := ¬ (y.lo ≤ 0 ∧ 0 ≤ y.hi)
theorem div_form {x y : Iv} (hb : ivBoth x y = true) (h0 : Off y) : ivDiv x y =
    if (((told (qF x.lo y.lo)).2 && (told (qC x.lo y.lo)).2) && (((told (qF x.lo y.hi)).2 && (told (qC x.lo y.hi)).2) && (((told (qF x.hi y.lo)).2 && (told (qC x.hi y.lo)).2) && ((told (qF x.hi y.hi)).2 && (told (qC x.hi y.hi)).2)))) then
      ivOf (min4 (told (qF x.lo y.lo)).1 (told (qF x.lo y.hi)).1 (told (qF x.hi y.lo)).1 (told (qF x.hi y.hi)).1) (max4 (told (qC x.lo y.lo)).1 (told (qC x.lo y.hi)).1 (told (qC x.hi y.lo)).1 (told (qC x.hi y.hi)).1)
    else ivNone := by
  have b := both_bd hb
  unfold Off at h0
  unfold ivDiv
  rw [hb, has_zero (both_iff.1 hb).2, show decide (y.lo ≤ 0 ∧ 0 ≤ y.hi) = false by simpa using h0]
  have d1 := divN_in (x := x.lo) (y := y.lo) (by omega) (by omega) (by omega)
  have d2 := divN_in (x := x.lo) (y := y.hi) (by omega) (by omega) (by omega)
  have d3 := divN_in (x := x.hi) (y := y.lo) (by omega) (by omega) (by omega)
  have d4 := divN_in (x := x.hi) (y := y.hi) (by omega) (by omega) (by omega)
  simp only [ivEnds, d1.1, d1.2, d2.1, d2.2, d3.1, d3.2, d4.1, d4.2]
  rfl
theorem div_yes {x y : Iv} (hb : ivBoth x y = true) (h0 : Off y)
    (h : (-1073741824 ≤ qF x.lo y.lo ∧ qC x.lo y.lo ≤ 1073741824) ∧ (-1073741824 ≤ qF x.lo y.hi ∧ qC x.lo y.hi ≤ 1073741824) ∧ (-1073741824 ≤ qF x.hi y.lo ∧ qC x.hi y.lo ≤ 1073741824) ∧ (-1073741824 ≤ qF x.hi y.hi ∧ qC x.hi y.hi ≤ 1073741824)) :
    ivDiv x y = ivOf (min4 (qF x.lo y.lo) (qF x.lo y.hi) (qF x.hi y.lo) (qF x.hi y.hi)) (max4 (qC x.lo y.lo) (qC x.lo y.hi) (qC x.hi y.lo) (qC x.hi y.hi)) := by
  rw [div_form hb h0]
  unfold Off at h0
  have b := both_bd hb
  have f1 : qF x.lo y.lo ≤ qC x.lo y.lo := fl_le_ce _ (by omega)
  have f2 : qF x.lo y.hi ≤ qC x.lo y.hi := fl_le_ce _ (by omega)
  have f3 : qF x.hi y.lo ≤ qC x.hi y.lo := fl_le_ce _ (by omega)
  have f4 : qF x.hi y.hi ≤ qC x.hi y.hi := fl_le_ce _ (by omega)
  rw [told_in (n := qF x.lo y.lo) (by omega), told_in (n := qC x.lo y.lo) (by omega), told_in (n := qF x.lo y.hi) (by omega), told_in (n := qC x.lo y.hi) (by omega),
    told_in (n := qF x.hi y.lo) (by omega), told_in (n := qC x.hi y.lo) (by omega), told_in (n := qF x.hi y.hi) (by omega), told_in (n := qC x.hi y.hi) (by omega)]
  rfl
theorem div_right {x y : Iv} (h : ivRight (ivDiv x y) = true) : ivBoth x y = true ∧ Off y ∧
    ((-1073741824 ≤ qF x.lo y.lo ∧ qC x.lo y.lo ≤ 1073741824) ∧ (-1073741824 ≤ qF x.lo y.hi ∧ qC x.lo y.hi ≤ 1073741824) ∧ (-1073741824 ≤ qF x.hi y.lo ∧ qC x.hi y.lo ≤ 1073741824) ∧ (-1073741824 ≤ qF x.hi y.hi ∧ qC x.hi y.hi ≤ 1073741824)) := by
  have hb : ivBoth x y = true := by
    cases hb : ivBoth x y
    · unfold ivDiv at h
      rw [hb] at h
      simp [right_none] at h
    · rfl
  have h0 : Off y := by
    intro h0
    unfold ivDiv at h
    rw [hb, has_zero (both_iff.1 hb).2, show decide (y.lo ≤ 0 ∧ 0 ≤ y.hi) = true by simpa using h0] at h
    simp [right_none] at h
  refine ⟨hb, h0, ?_⟩
  rw [div_form hb h0] at h
  split at h
  · rename_i hc
    simp only [Bool.and_eq_true, told_ok] at hc
    omega
  · rw [right_none] at h
    cases h
theorem less_div {p q x y : Iv} (h : Part p x) (k : Part q y) : ivLess (ivDiv p q) (ivDiv x y) = true := by
  cases hr : ivRight (ivDiv x y)
  · unfold ivLess
    rw [hr]
    rfl
  · obtain ⟨hb, h0, hq⟩ := div_right hr
    have b := part_bd h
    have c := part_bd k
    have e := div_yes hb h0 hq
    have h0' : Off q := by unfold Off at *; omega
    rw [e] at hr ⊢
    have hr' := right_of_of.1 hr
    have t : ∀ u v, (u = p.lo ∨ u = p.hi) → (v = q.lo ∨ v = q.hi) → min4 (qF x.lo y.lo) (qF x.lo y.hi) (qF x.hi y.lo) (qF x.hi y.hi) ≤ qF u v ∧ qF u v ≤ qC u v ∧ qC u v ≤ max4 (qC x.lo y.lo) (qC x.lo y.hi) (qC x.hi y.lo) (qC x.hi y.hi) :=
      fun u v hu hv => q_between (xl := x.lo) (xh := x.hi) (yl := y.lo) (yh := y.hi) (by omega) (by omega) h0 (by unfold min4; omega) (by unfold max4; omega)
    have t1 := t p.lo q.lo (.inl rfl) (.inl rfl)
    have t2 := t p.lo q.hi (.inl rfl) (.inr rfl)
    have t3 := t p.hi q.lo (.inr rfl) (.inl rfl)
    have t4 := t p.hi q.hi (.inr rfl) (.inr rfl)
    generalize min4 (qF x.lo y.lo) (qF x.lo y.hi) (qF x.hi y.lo) (qF x.hi y.hi) = m at *
    generalize max4 (qC x.lo y.lo) (qC x.lo y.hi) (qC x.hi y.lo) (qC x.hi y.hi) = M at *
    rw [div_yes (part_both h k).1 h0' (by omega)]
    exact less_of (by unfold min4 max4; omega)
/-- The exact quotient of numbers in two intervals lies in the answer. -/
theorem div_encloses {x y : Iv} {p q : Int} (h : ivRight (ivDiv x y) = true) (hp : x.lo ≤ p ∧ p ≤ x.hi) (hq : y.lo ≤ q ∧ q ≤ y.hi) :
    (0 < q ∧ (ivDiv x y).lo * q ≤ p * 65536 ∧ p * 65536 ≤ (ivDiv x y).hi * q) ∨ (q < 0 ∧ p * 65536 ≤ (ivDiv x y).lo * q ∧ (ivDiv x y).hi * q ≤ p * 65536) := by
  obtain ⟨hb, h0, hr⟩ := div_right h
  have e := div_yes hb h0 hr
  rw [e] at h ⊢
  rw [of_yes (right_of_of.1 h)]
  have t := q_between (m := min4 (qF x.lo y.lo) (qF x.lo y.hi) (qF x.hi y.lo) (qF x.hi y.hi)) (M := max4 (qC x.lo y.lo) (qC x.lo y.hi) (qC x.hi y.lo) (qC x.hi y.hi)) hp hq h0 (by unfold min4; omega) (by unfold max4; omega)
  dsimp only
  generalize min4 (qF x.lo y.lo) (qF x.lo y.hi) (qF x.hi y.lo) (qF x.hi y.hi) = m at *
  generalize max4 (qC x.lo y.lo) (qC x.lo y.hi) (qC x.hi y.lo) (qC x.hi y.hi) = M at *
  unfold Off at h0
  unfold qF qC at t
  by_cases hp : 0 < q
  · exact .inl ⟨hp, (fl_pos hp).1 t.1, (ce_pos hp).1 t.2.2⟩
  · have hn : q < 0 := by omega
    exact .inr ⟨hn, (fl_neg hn).1 t.1, (ce_neg hn).1 t.2.2⟩

end Go.Proofs.YtolfobgpgmfnpaaGreatDoor

namespace Go.Proofs.YtolfobgpgmfnpaaGreatDoor
set_option linter.unusedVariables false

/-- A tame interval is right, and small. -/
def Small (x : Iv) : Prop := ivRight x = true ∧ -1310720 ≤ x.lo ∧ x.hi ≤ 1313720
theorem tame_small (n w : Int) : Small (hTame n w) := by
  have h1 := Int.emod_nonneg w (show (3000 : Int) ≠ 0 by omega)
  have h2 := Int.emod_lt_of_pos w (show (0 : Int) < 3000 by omega)
  refine ⟨hWide_right h1, ?_⟩
  unfold hTame hWide within
  dsimp only
  omega
theorem small_bd {x : Iv} (h : Small x) : -1310720 ≤ x.lo ∧ x.lo ≤ x.hi ∧ x.hi ≤ 1313720 := ⟨h.2.1, (right_bd h.1).2.2, h.2.2⟩
theorem back_add {x y : Iv} (h : Small x) (k : Small y) : ivInside x (ivSub (ivAdd x y) y) = true := by
  have a := small_bd h
  have b := small_bd k
  have e : ivAdd x y = ⟨x.lo + y.lo, x.hi + y.hi, false⟩ := by
    unfold ivAdd
    rw [if_pos (both_iff.2 ⟨h.1, k.1⟩), of_yes (by omega)]
  rw [sub_eq, e, if_pos (both_iff.2 ⟨right_of.2 (by omega), k.1⟩), of_yes (by dsimp only; omega)]
  exact inside_iff.2 ⟨h.1, right_of.2 (by dsimp only; omega), by dsimp only; omega⟩
/-- The root of a small interval. -/
theorem root_form {x : Iv} (h : Small x) (h0 : 0 ≤ x.lo) : ∃ r s : Int, ivRoot x = ⟨r, s, false⟩ ∧ 0 ≤ r ∧ r ≤ s ∧ s ≤ 300001 ∧ r * r ≤ x.lo * 65536 ∧ x.hi * 65536 ≤ s * s := by
  have a := small_bd h
  have ⟨f1, f2, f3⟩ := flRoot_bd (x.lo * 65536) (by omega) (by omega)
  have ⟨g1, g2, g3⟩ := flRoot_bd (x.hi * 65536) (by omega) (by omega)
  have g4 := flRoot_le (x.hi * 65536) 300000 (by omega) (by omega) (by omega) (by omega)
  have m := flRoot_mono (n := x.lo * 65536) (m := x.hi * 65536) (by omega) (by omega) (by omega)
  have u1 := up_ge (x.lo * 65536)
  have u2 := up_ge (x.hi * 65536)
  have hs : x.hi * 65536 ≤ upRoot (x.hi * 65536) true * upRoot (x.hi * 65536) true := by
    by_cases hc : flRoot (x.hi * 65536) * flRoot (x.hi * 65536) = x.hi * 65536
    · have e : upRoot (x.hi * 65536) true = flRoot (x.hi * 65536) := by simp [upRoot, hc]
      rw [e]; omega
    · have e : upRoot (x.hi * 65536) true = flRoot (x.hi * 65536) + 1 := by simp [upRoot, hc]
      rw [e]; omega
  refine ⟨flRoot (x.lo * 65536), upRoot (x.hi * 65536) true, ?_, f1, by omega, by omega, f2, hs⟩
  have e : (ivRight x && !decide (x.lo < 0)) = true := by rw [h.1]; simp; omega
  rw [root_eq, e, (rootN_yes (n := x.lo) (by omega) false).1, (rootN_yes (n := x.hi) (by omega) true).1]
  show ivOf (upRoot (x.lo * 65536) false) (upRoot (x.hi * 65536) true) = _
  rw [u1.2.2, of_yes (by omega)]
theorem root_right {x : Iv} (h : Small x) : ivRight (ivRoot x) = decide (0 ≤ x.lo) := by
  have a := small_bd h
  by_cases h0 : 0 ≤ x.lo
  · obtain ⟨r, s, e, h1, h2, h3, h4⟩ := root_form h h0
    rw [e, right_of.2 (by omega)]
    simp [h0]
  · have e : (ivRight x && !decide (x.lo < 0)) = false := by rw [h.1]; simp; omega
    rw [root_eq, e]
    simp [right_none, h0]
theorem back_root {x : Iv} (h : Small x) (h1 : ivRight (ivRoot x) = true) : ivInside x (ivSqr (ivRoot x)) = true := by
  have a := small_bd h
  rw [root_right h] at h1
  obtain ⟨r, s, e, h2, h3, h4, h5, h6⟩ := root_form h (by simpa using h1)
  have hr : ivRight (⟨r, s, false⟩ : Iv) = true := right_of.2 (by omega)
  have q1 := sq_le h2 h3
  have q2 := sq_le (show 0 ≤ s by omega) h4
  have q3 : 0 ≤ r * r := Int.mul_nonneg h2 h2
  rw [e]
  unfold ivSqr
  rw [if_pos hr, has_zero hr]
  dsimp only
  split
  · unfold ivOut
    rw [fdiv_one, fdiv_one, of_yes (by omega)]
    exact inside_iff.2 ⟨h.1, right_of.2 (by omega), by dsimp only; omega⟩
  · unfold ivOut
    rw [fdiv_one, fdiv_one, of_yes (by omega)]
    exact inside_iff.2 ⟨h.1, right_of.2 (by omega), by dsimp only; omega⟩
theorem back_div {x y : Iv} (h : ivRight x = true) (k : ivRight y = true) (hp : ivRight (ivMul (ivDiv x y) y) = true) : ivInside x (ivMul (ivDiv x y) y) = true := by
  have bx := right_bd h
  have bw := right_bd k
  have hb : ivBoth (ivDiv x y) y = true := by
    cases hb : ivBoth (ivDiv x y) y
    · unfold ivMul at hp; rw [hb] at hp; simp [right_none] at hp
    · rfl
  have hq := (both_iff.1 hb).1
  have bq := right_bd hq
  obtain ⟨-, h0, -⟩ := div_right hq
  unfold Off at h0
  have e1 := div_encloses hq (p := x.lo) (q := y.lo) (by omega) (by omega)
  have e2 := div_encloses hq (p := x.hi) (q := y.lo) (by omega) (by omega)
  unfold ivMul at hp ⊢
  rw [if_pos hb] at hp ⊢
  generalize ivDiv x y = z at *
  unfold ivOut at hp ⊢
  rw [fdiv_one, fdiv_one] at hp ⊢
  have hr := right_of_of.1 hp
  rw [of_yes hr]
  refine inside_iff.2 ⟨h, right_of.2 hr, ?_⟩
  unfold min4 max4 at *
  dsimp only
  omega
/-- Numbers in two small intervals. -/
theorem encl_add {x y : Iv} {p q : Int} (h : Small x) (k : Small y) (hp : x.lo ≤ p ∧ p ≤ x.hi) (hq : y.lo ≤ q ∧ q ≤ y.hi) : ivHas (ivAdd x y) (p + q) = true := by
  have a := small_bd h
  have b := small_bd k
  unfold ivAdd
  rw [if_pos (both_iff.2 ⟨h.1, k.1⟩), of_yes (by omega)]
  unfold ivHas
  rw [right_of.2 (by omega)]
  simp
  omega
theorem encl_neg {x : Iv} {p : Int} (h : Small x) (hp : x.lo ≤ p ∧ p ≤ x.hi) : ivHas (ivNeg x) (-p) = true := by
  have a := small_bd h
  unfold ivNeg
  rw [if_pos h.1, of_yes (by omega)]
  unfold ivHas
  rw [right_of.2 (by omega)]
  simp
  omega
theorem encl_sub {x y : Iv} {p q : Int} (h : Small x) (k : Small y) (hp : x.lo ≤ p ∧ p ≤ x.hi) (hq : y.lo ≤ q ∧ q ≤ y.hi) : ivHas (ivSub x y) (p - q) = true := by
  have a := small_bd h
  have b := small_bd k
  rw [sub_eq, if_pos (both_iff.2 ⟨h.1, k.1⟩), of_yes (by omega)]
  unfold ivHas
  rw [right_of.2 (by omega)]
  simp
  omega
theorem small_prod {x y : Iv} (h : Small x) (k : Small y) : ∀ u v, (u = x.lo ∨ u = x.hi) → (v = y.lo ∨ v = y.hi) → -1725860238400 ≤ u * v ∧ u * v ≤ 1725860238400 := by
  have a := small_bd h
  have b := small_bd k
  intro u v hu hv
  exact mul_bd (A := 1313720) (B := 1313720) (by omega) (by omega)
theorem encl_mul {x y : Iv} {p q : Int} (h : Small x) (k : Small y) (hp : x.lo ≤ p ∧ p ≤ x.hi) (hq : y.lo ≤ q ∧ q ≤ y.hi) :
    ∃ l g : Int, ivMul x y = ⟨l, g, false⟩ ∧ (-1073741824 ≤ l ∧ l ≤ 1073741824) ∧ (-1073741824 ≤ g ∧ g ≤ 1073741824) ∧ l ≤ g ∧ l * 65536 ≤ p * q ∧ p * q ≤ g * 65536 := by
  have m := mul_between2 hp.1 hp.2 hq.1 hq.2
  have t1 := small_prod h k x.lo y.lo (.inl rfl) (.inl rfl)
  have t2 := small_prod h k x.lo y.hi (.inl rfl) (.inr rfl)
  have t3 := small_prod h k x.hi y.lo (.inr rfl) (.inl rfl)
  have t4 := small_prod h k x.hi y.hi (.inr rfl) (.inr rfl)
  have e : ivMul x y = ⟨min4 (x.lo * y.lo) (x.lo * y.hi) (x.hi * y.lo) (x.hi * y.hi) / 65536, -(-max4 (x.lo * y.lo) (x.lo * y.hi) (x.hi * y.lo) (x.hi * y.hi) / 65536), false⟩ := by
    unfold ivMul ivOut
    rw [if_pos (both_iff.2 ⟨h.1, k.1⟩), fdiv_one, fdiv_one, of_yes]
    unfold min4 max4
    omega
  refine ⟨_, _, e, ?_⟩
  unfold min4 max4 at *
  omega
theorem encl_sqr {x : Iv} {p : Int} (h : Small x) (hp : x.lo ≤ p ∧ p ≤ x.hi) :
    ∃ l g : Int, ivSqr x = ⟨l, g, false⟩ ∧ (0 ≤ l ∧ l ≤ 1073741824) ∧ (-1073741824 ≤ g ∧ g ≤ 1073741824) ∧ l ≤ g ∧ l * 65536 ≤ p * p ∧ p * p ≤ g * 65536 := by
  have s := sq_between hp.1 hp.2
  have t1 := small_prod h h x.lo x.lo (.inl rfl) (.inl rfl)
  have t2 := small_prod h h x.hi x.hi (.inr rfl) (.inr rfl)
  have s1 : 0 ≤ x.lo * x.lo := by rw [← abs_sq]; exact Int.mul_nonneg (by omega) (by omega)
  have s2 : 0 ≤ x.hi * x.hi := by rw [← abs_sq]; exact Int.mul_nonneg (by omega) (by omega)
  by_cases h0 : x.lo ≤ 0 ∧ 0 ≤ x.hi
  · have e : ivSqr x = ⟨0 / 65536, -(-max (x.lo * x.lo) (x.hi * x.hi) / 65536), false⟩ := by
      unfold ivSqr ivOut
      rw [if_pos h.1, has_zero h.1, if_pos (by simpa using h0), fdiv_one, fdiv_one, of_yes (by omega)]
    exact ⟨_, _, e, by omega⟩
  · have s3 := s.2.1 h0
    have e : ivSqr x = ⟨min (x.lo * x.lo) (x.hi * x.hi) / 65536, -(-max (x.lo * x.lo) (x.hi * x.hi) / 65536), false⟩ := by
      unfold ivSqr ivOut
      rw [if_pos h.1, has_zero h.1, if_neg (by simpa using h0), fdiv_one, fdiv_one, of_yes (by omega)]
    exact ⟨_, _, e, by omega⟩
theorem div_off {x y : Iv} (h : ivRight (ivDiv x y) = true) : ivHas y 0 = false := by
  obtain ⟨hb, h0, -⟩ := div_right h
  unfold Off at h0
  rw [has_zero (both_iff.1 hb).2]
  simpa using h0
/-- The root of a number that is not below 0 lies in the answer. -/
theorem encl_root {x : Iv} {p : Int} (h : Small x) (hp : x.lo ≤ p ∧ p ≤ x.hi) (h0 : 0 ≤ x.lo) :
    ∃ l g : Int, ivRoot x = ⟨l, g, false⟩ ∧ (0 ≤ l ∧ l ≤ 8388609) ∧ (0 ≤ g ∧ g ≤ 8388609) ∧ l ≤ g ∧ l * l ≤ p * 65536 ∧ p * 65536 ≤ g * g := by
  have b := right_bd h.1
  obtain ⟨r1, r2, r3⟩ := rootN_yes (n := x.lo) ⟨h0, by omega⟩ false
  obtain ⟨s1, s2, s3⟩ := rootN_yes (n := x.hi) ⟨by omega, by omega⟩ true
  have u1 := up_ge (x.lo * 65536)
  have u2 := up_ge (x.hi * 65536)
  have f1 := flRoot_bd (x.lo * 65536) (by omega) (by omega)
  have f2 := flRoot_bd (x.hi * 65536) (by omega) (by omega)
  have m1 := flRoot_mono (n := x.lo * 65536) (m := x.hi * 65536) (by omega) (by omega) (by omega)
  have hg : x.hi * 65536 ≤ upRoot (x.hi * 65536) true * upRoot (x.hi * 65536) true := by
    unfold upRoot
    cases hc : (flRoot (x.hi * 65536) * flRoot (x.hi * 65536) == x.hi * 65536)
    · simp only [Bool.true_and, Bool.not_false, if_true]; omega
    · have := eq_of_beq hc
      simp only [Bool.true_and, Bool.not_true, Bool.false_eq_true, if_false]; omega
  refine ⟨upRoot (x.lo * 65536) false, upRoot (x.hi * 65536) true, ?_, by omega, by omega, by omega, ?_, by omega⟩
  · unfold ivRoot
    rw [h.1, r1, s1]
    simp only [Bool.and_true, if_true]
    exact of_yes (by omega)
  · rw [u1.2.2]; omega
theorem root_none {x : Iv} (h0 : x.lo < 0) : ivRight (ivRoot x) = false := by
  rw [root_eq]
  have : decide (x.lo < 0) = true := by simpa using h0
  rw [this]
  simp [right_none]
/-- Halves, hulls, meets. -/
theorem less_hull2 {a b c : Iv} (h : ivLess a c = true) (k : ivLess b c = true) : ivLess (ivHull a b) c = true := by
  unfold ivLess at *
  cases hc : ivRight c
  · rfl
  · rw [hc] at h k
    simp only [Bool.not_true, Bool.false_or] at h k ⊢
    have h1 := inside_iff.1 h
    have k1 := inside_iff.1 k
    have b1 := right_bd h1.1
    have b2 := right_bd k1.1
    unfold ivHull
    rw [if_pos (both_iff.2 ⟨h1.1, k1.1⟩), of_yes (by omega)]
    exact inside_iff.2 ⟨right_of.2 (by omega), hc, by dsimp only; omega⟩
theorem split_form {x : Iv} (h : ivRight x = true) : ivSplit x = (⟨x.lo, ivMid x, false⟩, ⟨ivMid x, x.hi, false⟩) ∧ Part ⟨x.lo, ivMid x, false⟩ x ∧ Part ⟨ivMid x, x.hi, false⟩ x ∧ x.lo ≤ ivMid x ∧ ivMid x ≤ x.hi := by
  have b := right_bd h
  have m := mid_in h
  refine ⟨?_, ⟨right_of.2 (by omega), h, by dsimp only; omega⟩, ⟨right_of.2 (by omega), h, by dsimp only; omega⟩, m.2⟩
  unfold ivSplit
  rw [if_pos h, of_yes (by omega), of_yes (by omega)]
theorem part_refl {x : Iv} (h : ivRight x = true) : Part x x := ⟨h, h, by omega⟩
theorem both_comm (a b : Iv) : ivBoth a b = ivBoth b a := by unfold ivBoth; rw [Bool.and_comm]
theorem add_comm' (a b : Iv) : ivAdd a b = ivAdd b a := by
  unfold ivAdd; rw [both_comm, Int.add_comm, Int.add_comm a.hi]
theorem mul_comm' (a b : Iv) : ivMul a b = ivMul b a := by
  unfold ivMul
  rw [both_comm, Int.mul_comm b.lo a.lo, Int.mul_comm b.lo a.hi, Int.mul_comm b.hi a.lo, Int.mul_comm b.hi a.hi]
  have e1 : min4 (a.lo * b.lo) (a.lo * b.hi) (a.hi * b.lo) (a.hi * b.hi) = min4 (a.lo * b.lo) (a.hi * b.lo) (a.lo * b.hi) (a.hi * b.hi) := by unfold min4; omega
  have e2 : max4 (a.lo * b.lo) (a.lo * b.hi) (a.hi * b.lo) (a.hi * b.hi) = max4 (a.lo * b.lo) (a.hi * b.lo) (a.lo * b.hi) (a.hi * b.hi) := by unfold max4; omega
  rw [e1, e2]
theorem hull_comm (a b : Iv) : ivHull a b = ivHull b a := by
  unfold ivHull; rw [both_comm, Int.min_comm, Int.max_comm]
theorem meet_comm (a b : Iv) : ivMeet a b = ivMeet b a := by
  unfold ivMeet; rw [both_comm, Int.max_comm, Int.min_comm]
theorem neg_of (l h : Int) : ivNeg (ivOf l h) = ivOf (-h) (-l) := by
  rcases of_cases l h with ⟨e, h1⟩ | ⟨e, h1⟩
  · rw [e]
    unfold ivNeg
    rw [if_pos (right_of.2 h1)]
  · rw [e, of_no (by omega)]
    rfl
theorem neg_form {x : Iv} (h : ivRight x = true) : ivNeg x = ⟨-x.hi, -x.lo, false⟩ := by
  have b := right_bd h
  unfold ivNeg
  rw [if_pos h, of_yes (by omega)]
theorem neg_mul' {x y : Iv} (h : ivRight x = true) (k : ivRight y = true) : ivMul (ivNeg x) y = ivNeg (ivMul x y) := by
  have b := right_bd h
  rw [neg_form h]
  unfold ivMul
  rw [if_pos (both_iff.2 ⟨right_of.2 (by omega), k⟩), if_pos (both_iff.2 ⟨h, k⟩)]
  unfold ivOut
  rw [neg_of, fdiv_one, fdiv_one, fdiv_one, fdiv_one]
  simp only [Int.neg_mul]
  congr 1
  · unfold min4 max4; omega
  · unfold min4 max4; omega
theorem sqr_mul {x : Iv} (h : ivRight x = true) : ivInside (ivSqr x) (ivMul x x) = ivRight (ivMul x x) := by
  cases hm : ivRight (ivMul x x)
  · cases hi : ivInside (ivSqr x) (ivMul x x)
    · rfl
    · rw [(inside_iff.1 hi).2.1] at hm
      cases hm
  · have b := right_bd h
    have s1 : 0 ≤ x.lo * x.lo := by rw [← abs_sq]; exact Int.mul_nonneg (by omega) (by omega)
    have s2 : 0 ≤ x.hi * x.hi := by rw [← abs_sq]; exact Int.mul_nonneg (by omega) (by omega)
    have c1 := sq_between (l := x.lo) (u := x.lo) (h := x.hi) (by omega) (by omega)
    have m1 := mul_between x.lo (show x.lo ≤ x.lo by omega) b.2.2
    have m2 := mul_between2 (l := x.lo) (h := x.hi) (u := x.lo) (l2 := x.lo) (h2 := x.hi) (v := x.hi) (by omega) (by omega) (by omega) (by omega)
    have z : ∀ u v : Int, u * v ≤ max (u * u) (v * v) := by
      intro u v
      by_cases huv : u ≤ v
      · have := sq_between (l := u) (u := u) (h := v) (by omega) huv
        by_cases hu : 0 ≤ u
        · have := Int.mul_le_mul_of_nonneg_right huv (show 0 ≤ v by omega); omega
        · by_cases hv : 0 ≤ v
          · have := Int.mul_nonneg (show 0 ≤ -u by omega) hv
            have e : -u * v = -(u * v) := Int.neg_mul u v
            have := (sq_between (l := u) (u := u) (h := v) (by omega) huv).2.2
            omega
          · have := Int.mul_le_mul_of_nonpos_left (show u ≤ 0 by omega) huv; omega
      · by_cases hv : 0 ≤ v
        · have := Int.mul_le_mul_of_nonneg_left (show v ≤ u by omega) (show 0 ≤ u by omega); omega
        · by_cases hu : 0 ≤ u
          · have := Int.mul_nonneg hu (show 0 ≤ -v by omega)
            have e : u * -v = -(u * v) := Int.mul_neg u v
            have e2 : 0 ≤ u * u := Int.mul_nonneg hu hu
            omega
          · have := Int.mul_le_mul_of_nonpos_right (show v ≤ u by omega) (show v ≤ 0 by omega); omega
    have z1 := z x.lo x.hi
    have z2 := z x.hi x.lo
    have hb : ivBoth x x = true := both_iff.2 ⟨h, h⟩
    have c := Int.mul_comm x.hi x.lo
    unfold ivMul at hm ⊢
    rw [if_pos hb] at hm ⊢
    unfold ivOut at hm ⊢
    rw [fdiv_one, fdiv_one] at hm ⊢
    have hr := right_of_of.1 hm
    rw [of_yes hr]
    unfold min4 max4 at *
    have key : ∀ l : Int, 0 ≤ l → l ≤ max (x.lo * x.lo) (x.hi * x.hi) → (x.lo ≤ 0 ∧ 0 ≤ x.hi → l = 0) → (¬ (x.lo ≤ 0 ∧ 0 ≤ x.hi) → l = min (x.lo * x.lo) (x.hi * x.hi)) →
        ivInside (ivOf (l.fdiv 65536) (-((-(max (x.lo * x.lo) (x.hi * x.hi))).fdiv 65536))) ⟨(min (x.lo * x.lo) (min (x.lo * x.hi) (min (x.hi * x.lo) (x.hi * x.hi)))) / 65536, -(-(max (x.lo * x.lo) (max (x.lo * x.hi) (max (x.hi * x.lo) (x.hi * x.hi)))) / 65536), false⟩ = true := by
      intro l h1 h2 h3 h4
      have h5 : min (x.lo * x.lo) (min (x.lo * x.hi) (min (x.hi * x.lo) (x.hi * x.hi))) ≤ l := by
        by_cases h0 : x.lo ≤ 0 ∧ 0 ≤ x.hi
        · have := h3 h0
          have := Int.mul_nonneg (show 0 ≤ -x.lo by omega) h0.2
          have e : -x.lo * x.hi = -(x.lo * x.hi) := Int.neg_mul _ _
          omega
        · have := h4 h0
          omega
      rw [fdiv_one, fdiv_one, of_yes (by omega)]
      exact inside_iff.2 ⟨right_of.2 (by omega), right_of.2 hr, by dsimp only; omega⟩
    unfold ivSqr ivOut
    rw [if_pos h, has_zero h]
    by_cases h0 : x.lo ≤ 0 ∧ 0 ≤ x.hi
    · rw [if_pos (by simpa using h0)]
      exact key 0 (by omega) (by omega) (fun _ => rfl) (fun hn => absurd h0 hn)
    · rw [if_neg (by simpa using h0)]
      exact key _ (by omega) (by omega) (fun hn => absurd hn h0) (fun _ => rfl)
/-- An answer that is one lies within the bounds; else it is None. -/
def Good (z : Iv) : Prop := z = ivNone ∨ (z.no = false ∧ ivRight z = true)
theorem good_of (l h : Int) : Good (ivOf l h) := by
  rcases of_cases l h with ⟨e, h1⟩ | ⟨e, h1⟩
  · exact .inr ⟨by rw [e], by rw [e]; exact right_of.2 h1⟩
  · exact .inl e
theorem good_ite {c : Prop} [Decidable c] {a b : Iv} (h : Good a) (k : Good b) : Good (if c then a else b) := by split <;> assumption
theorem good_add (a b : Iv) : Good (ivAdd a b) := good_ite (good_of _ _) (.inl rfl)
theorem good_neg (a : Iv) : Good (ivNeg a) := good_ite (good_of _ _) (.inl rfl)
theorem good_sub (a b : Iv) : Good (ivSub a b) := good_add _ _
theorem good_mul (a b : Iv) : Good (ivMul a b) := good_ite (good_of _ _) (.inl rfl)
theorem good_times (a : Iv) (k : Int) : Good (ivTimes a k) := good_ite (good_of _ _) (.inl rfl)
theorem good_sqr (a : Iv) : Good (ivSqr a) := good_ite (good_ite (good_of _ _) (good_of _ _)) (.inl rfl)
theorem good_div (a b : Iv) : Good (ivDiv a b) := good_ite (good_ite (good_of _ _) (.inl rfl)) (.inl rfl)
theorem good_root (a : Iv) : Good (ivRoot a) := good_ite (good_of _ _) (.inl rfl)
theorem good_hull (a b : Iv) : Good (ivHull a b) := good_ite (good_of _ _) (.inl rfl)

end Go.Proofs.YtolfobgpgmfnpaaGreatDoor

namespace Go.Proofs.YtolfobgpgmfnpaaGreatDoor
set_option linter.unusedVariables false

theorem rights_add {a b : Iv} (h : ivRight (ivAdd a b) = true) : ivRight a = true ∧ ivRight b = true := by
  unfold ivAdd at h
  by_cases hb : ivBoth a b = true
  · exact both_iff.1 hb
  · rw [if_neg hb] at h
    simp [right_none] at h
theorem rights_mul {a b : Iv} (h : ivRight (ivMul a b) = true) : ivRight a = true ∧ ivRight b = true := by
  unfold ivMul at h
  by_cases hb : ivBoth a b = true
  · exact both_iff.1 hb
  · rw [if_neg hb] at h
    simp [right_none] at h
theorem rights_sqr {a : Iv} (h : ivRight (ivSqr a) = true) : ivRight a = true := by
  unfold ivSqr at h
  by_cases hb : ivRight a = true
  · exact hb
  · rw [if_neg hb] at h
    simp [right_none] at h
theorem rights_root {a : Iv} (h : ivRight (ivRoot a) = true) : ivRight a = true := by
  unfold ivRoot at h
  by_cases hb : ivRight a = true
  · exact hb
  · simp [hb, right_none] at h
theorem lessPart {a b : Iv} (h : ivLess a b = true) (hb : ivRight b = true) : Part a b := by
  unfold ivLess at h
  rw [hb] at h
  have h1 : ivInside a b = true := by simpa using h
  obtain ⟨h2, h3, h4, h5⟩ := inside_iff.1 h1
  exact ⟨h2, h3, h4, h5⟩
theorem partLess {a b : Iv} (h : Part a b) : ivLess a b = true := by
  unfold ivLess
  rw [inside_iff.2 ⟨h.1, h.2.1, h.2.2.1, h.2.2.2⟩, Bool.or_true]
theorem lessBad {a b : Iv} (h : ivRight b = false) : ivLess a b = true := by
  unfold ivLess
  rw [h]
  rfl
theorem lessAdd {p q x y : Iv} (h : ivLess p x = true) (k : ivLess q y = true) : ivLess (ivAdd p q) (ivAdd x y) = true := by
  cases hr : ivRight (ivAdd x y)
  · exact lessBad hr
  · have h1 := rights_add hr
    exact less_add (lessPart h h1.1) (lessPart k h1.2)
theorem lessMul {p q x y : Iv} (h : ivLess p x = true) (k : ivLess q y = true) : ivLess (ivMul p q) (ivMul x y) = true := by
  cases hr : ivRight (ivMul x y)
  · exact lessBad hr
  · have h1 := rights_mul hr
    exact less_mul (lessPart h h1.1) (lessPart k h1.2)
theorem lessRoot {p x : Iv} (h : ivLess p x = true) : ivLess (ivRoot p) (ivRoot x) = true := by
  cases hr : ivRight (ivRoot x)
  · exact lessBad hr
  · exact less_root (lessPart h (rights_root hr))
theorem lessDiv {p q x y : Iv} (h : ivLess p x = true) (k : ivLess q y = true) : ivLess (ivDiv p q) (ivDiv x y) = true := by
  cases hr : ivRight (ivDiv x y)
  · exact lessBad hr
  · have h1 := both_iff.1 (div_right hr).1
    exact less_div (lessPart h h1.1) (lessPart k h1.2)

/-! About 0. -/
theorem neg_bad {z : Iv} (h : ivRight z = false) : ivNeg z = ivNone := by
  unfold ivNeg
  rw [h]
  rfl
theorem right_neg {z : Iv} (h : ivRight z = true) : ivRight (ivNeg z) = true := by
  have b := right_bd h
  rw [neg_form h]
  exact right_of.2 (by omega)
theorem neg_neg_right {z : Iv} (h : ivRight z = true) : ivNeg (ivNeg z) = z := by
  have b := right_bd h
  have e := (right_iff.1 h).1
  rw [neg_form h, neg_form (right_of.2 (by omega))]
  obtain ⟨lo, hi, no⟩ := z
  dsimp only at e ⊢
  rw [e, Int.neg_neg, Int.neg_neg]
theorem neg_neg_good {z : Iv} (h : Good z) : ivNeg (ivNeg z) = z := by
  rcases h with h | ⟨h1, h2⟩
  · rw [h]; rfl
  · exact neg_neg_right h2
theorem add_bad {a b : Iv} (h : ivRight a = false ∨ ivRight b = false) : ivAdd a b = ivNone := by
  unfold ivAdd ivBoth
  rcases h with h | h <;> simp [h]
theorem add_neg (a b : Iv) : ivAdd (ivNeg a) (ivNeg b) = ivNeg (ivAdd a b) := by
  cases ha : ivRight a
  · rw [neg_bad ha, add_bad (.inl rfl), add_bad (.inl ha)]; rfl
  cases hb : ivRight b
  · rw [neg_bad hb, add_bad (.inr rfl), add_bad (.inr hb)]; rfl
  unfold ivAdd
  rw [if_pos (both_iff.2 ⟨right_neg ha, right_neg hb⟩), if_pos (both_iff.2 ⟨ha, hb⟩), neg_of, neg_form ha, neg_form hb]
  congr 1 <;> dsimp only <;> omega
theorem mul_neg_neg {a b : Iv} (ha : ivRight a = true) (hb : ivRight b = true) : ivMul (ivNeg a) (ivNeg b) = ivMul a b := by
  rw [neg_mul' ha (right_neg hb), mul_comm', neg_mul' hb ha, mul_comm', neg_neg_good (good_mul _ _)]
theorem sqr_neg {a : Iv} (h : ivRight a = true) : ivSqr (ivNeg a) = ivSqr a := by
  have b := right_bd h
  have hn := right_neg h
  unfold ivSqr
  rw [if_pos h, if_pos hn, has_zero h, has_zero hn, neg_form h]
  dsimp only
  rw [Int.neg_mul_neg, Int.neg_mul_neg, Int.max_comm, Int.min_comm]
  have e : decide (-a.hi ≤ 0 ∧ 0 ≤ -a.lo) = decide (a.lo ≤ 0 ∧ 0 ≤ a.hi) := by
    congr 1
    exact propext ⟨fun h => by omega, fun h => by omega⟩
  rw [e]
theorem qF_neg (x y : Int) : qF (-x) y = -(qC x y) := by
  unfold qF qC
  rw [Int.neg_mul, Int.neg_neg]
theorem qC_neg (x y : Int) : qC (-x) y = -(qF x y) := by
  unfold qF qC
  rw [Int.neg_mul, Int.neg_neg]
theorem div_bad {x y : Iv} (h : ¬ (ivBoth x y = true ∧ Off y ∧
    ((-1073741824 ≤ qF x.lo y.lo ∧ qC x.lo y.lo ≤ 1073741824) ∧ (-1073741824 ≤ qF x.lo y.hi ∧ qC x.lo y.hi ≤ 1073741824) ∧ (-1073741824 ≤ qF x.hi y.lo ∧ qC x.hi y.lo ≤ 1073741824) ∧ (-1073741824 ≤ qF x.hi y.hi ∧ qC x.hi y.hi ≤ 1073741824)))) :
    ivDiv x y = ivNone := by
  rcases good_div x y with e | ⟨-, e⟩
  · exact e
  · exact absurd (div_right e) h
theorem div_neg {x y : Iv} (hx : ivRight x = true) : ivDiv (ivNeg x) y = ivNeg (ivDiv x y) := by
  have hn := right_neg hx
  have el : (ivNeg x).lo = -x.hi := by rw [neg_form hx]
  have eh : (ivNeg x).hi = -x.lo := by rw [neg_form hx]
  by_cases h : ivBoth x y = true ∧ Off y ∧
    ((-1073741824 ≤ qF x.lo y.lo ∧ qC x.lo y.lo ≤ 1073741824) ∧ (-1073741824 ≤ qF x.lo y.hi ∧ qC x.lo y.hi ≤ 1073741824) ∧ (-1073741824 ≤ qF x.hi y.lo ∧ qC x.hi y.lo ≤ 1073741824) ∧ (-1073741824 ≤ qF x.hi y.hi ∧ qC x.hi y.hi ≤ 1073741824))
  · obtain ⟨h1, h2, h3⟩ := h
    rw [div_yes h1 h2 h3, neg_of, div_yes (both_iff.2 ⟨hn, (both_iff.1 h1).2⟩) h2 (by rw [el, eh, qF_neg, qC_neg, qF_neg, qC_neg, qF_neg, qC_neg, qF_neg, qC_neg]; omega)]
    rw [el, eh, qF_neg, qC_neg, qF_neg, qC_neg, qF_neg, qC_neg, qF_neg, qC_neg]
    unfold min4 max4
    congr 1 <;> omega
  · rw [div_bad h, div_bad]
    · rfl
    · intro ⟨h1, h2, h3⟩
      rw [el, eh, qF_neg, qC_neg, qF_neg, qC_neg, qF_neg, qC_neg, qF_neg, qC_neg] at h3
      exact h ⟨both_iff.2 ⟨hx, (both_iff.1 h1).2⟩, h2, by omega⟩

/-! Times nothing, times one. -/
theorem fdiv_steps (n : Int) : (n * 65536).fdiv 65536 = n := by rw [fdiv_one]; omega
theorem point_form {n : Int} (h : -1073741824 ≤ n ∧ n ≤ 1073741824) : ivPoint n = ⟨n, n, false⟩ := of_yes (by omega)
theorem mul_zero {a : Iv} (h : ivRight a = true) : ivMul a ⟨0, 0, false⟩ = ⟨0, 0, false⟩ := by
  unfold ivMul
  rw [if_pos (both_iff.2 ⟨h, by decide⟩)]
  simp only [Int.mul_zero]
  rfl
theorem right_eta {a : Iv} (h : ivRight a = true) : (⟨a.lo, a.hi, false⟩ : Iv) = a := by
  have e := (right_iff.1 h).1
  obtain ⟨lo, hi, no⟩ := a
  dsimp only at e ⊢
  rw [e]
theorem mul_one {a : Iv} (h : ivRight a = true) : ivMul a ⟨65536, 65536, false⟩ = a := by
  have b := right_bd h
  unfold ivMul ivOut
  rw [if_pos (both_iff.2 ⟨h, by decide⟩)]
  dsimp only
  rw [show min4 (a.lo * 65536) (a.lo * 65536) (a.hi * 65536) (a.hi * 65536) = a.lo * 65536 by unfold min4; omega,
    show max4 (a.lo * 65536) (a.lo * 65536) (a.hi * 65536) (a.hi * 65536) = a.hi * 65536 by unfold max4; omega,
    ← Int.neg_mul, fdiv_steps, fdiv_steps, Int.neg_neg, of_yes (by omega), right_eta h]
theorem mul_minus {a : Iv} (h : ivRight a = true) : ivMul a ⟨-65536, -65536, false⟩ = ivNeg a := by
  have e : (⟨-65536, -65536, false⟩ : Iv) = ivNeg ⟨65536, 65536, false⟩ := rfl
  rw [e, mul_comm', neg_mul' (by decide) h, mul_comm', mul_one h]
theorem add_zero {a : Iv} (h : ivRight a = true) : ivAdd a ⟨0, 0, false⟩ = a := by
  have b := right_bd h
  unfold ivAdd
  rw [if_pos (both_iff.2 ⟨h, by decide⟩), of_yes (by dsimp only; omega), Int.add_zero, Int.add_zero, right_eta h]

/-! Squares, where they are. -/
theorem sqr_ends {u : Iv} (h : ivRight (ivSqr u) = true) :
    (u.lo ≤ 0 ∧ 0 ≤ u.hi → (ivSqr u).lo ≤ 0) ∧ (0 < u.lo → (ivSqr u).lo * 65536 ≤ u.lo * u.lo) ∧ (u.hi < 0 → (ivSqr u).lo * 65536 ≤ u.hi * u.hi) ∧
    u.lo * u.lo ≤ (ivSqr u).hi * 65536 ∧ u.hi * u.hi ≤ (ivSqr u).hi * 65536 ∧ (ivSqr u).lo ≤ (ivSqr u).hi := by
  have hu := rights_sqr h
  have b := right_bd hu
  unfold ivSqr ivOut at h ⊢
  rw [if_pos hu, has_zero hu] at h ⊢
  by_cases h0 : u.lo ≤ 0 ∧ 0 ≤ u.hi
  · rw [if_pos (c := decide (u.lo ≤ 0 ∧ 0 ≤ u.hi) = true) (by simpa using h0)] at h ⊢
    have hr := right_of_of.1 h
    rw [of_yes hr]
    simp only [fdiv_one] at hr ⊢
    omega
  · rw [if_neg (c := decide (u.lo ≤ 0 ∧ 0 ≤ u.hi) = true) (by simpa using h0)] at h ⊢
    have hr := right_of_of.1 h
    rw [of_yes hr]
    simp only [fdiv_one] at hr ⊢
    omega
theorem sq_le_sq {x y : Int} (hx : 0 ≤ x) (h : x ≤ y) : x * x ≤ y * y := Int.mul_le_mul h h hx (by omega)
/-- A number by a length that isn't whole: its square, of squares. -/
theorem unit_part {u : Iv} {P rl rh n : Int} (hs : ivRight (ivSqr u) = true) (h0 : 0 < rl) (hr : rl ≤ rh) (hl : rl * rl ≤ n) (hh : n ≤ rh * rh)
    (h1 : u.lo * rl ≤ P) (h2 : P ≤ u.hi * rl) (h3 : u.lo * rh ≤ P) (h4 : P ≤ u.hi * rh) : (ivSqr u).lo * 65536 * n ≤ P * P ∧ P * P ≤ (ivSqr u).hi * 65536 * n := by
  obtain ⟨s1, s2, s3, s4, s5, s6⟩ := sqr_ends hs
  have hn : 0 ≤ n := by have := Int.mul_nonneg (show 0 ≤ rl by omega) (show 0 ≤ rl by omega); omega
  have hP : 0 ≤ P * P := by
    by_cases hp : 0 ≤ P
    · exact Int.mul_nonneg hp hp
    · have := Int.mul_nonneg (show 0 ≤ -P by omega) (show 0 ≤ -P by omega)
      rwa [Int.neg_mul_neg] at this
  have e4 : ∀ x y : Int, x * y * (x * y) = x * x * (y * y) := fun x y => by rw [Int.mul_assoc, Int.mul_left_comm y x y, ← Int.mul_assoc]
  constructor
  · by_cases c1 : 0 < u.lo
    · have a1 := sq_le_sq (Int.mul_nonneg (show 0 ≤ u.lo by omega) (show 0 ≤ rh by omega)) h3
      rw [e4] at a1
      have a2 := Int.mul_le_mul_of_nonneg_left hh (Int.mul_nonneg (show 0 ≤ u.lo by omega) (show 0 ≤ u.lo by omega))
      have a3 := Int.mul_le_mul_of_nonneg_right (s2 c1) hn
      omega
    · by_cases c2 : u.hi < 0
      · have a0 := Int.mul_nonneg (show 0 ≤ -u.hi by omega) (show 0 ≤ rh by omega)
        have a1 := sq_le_sq (x := -u.hi * rh) (y := -P) a0 (by rw [Int.neg_mul]; omega)
        rw [e4, Int.neg_mul_neg, Int.neg_mul_neg] at a1
        have a2 := Int.mul_le_mul_of_nonneg_left hh (show 0 ≤ u.hi * u.hi by have := Int.mul_nonneg (show 0 ≤ -u.hi by omega) (show 0 ≤ -u.hi by omega); rwa [Int.neg_mul_neg] at this)
        have a3 := Int.mul_le_mul_of_nonneg_right (s3 c2) hn
        omega
      · have a1 := s1 (by omega)
        have a3 := Int.mul_le_mul_of_nonneg_right (show (ivSqr u).lo * 65536 ≤ 0 by omega) hn
        rw [Int.zero_mul] at a3
        omega
  · by_cases c1 : 0 ≤ P
    · have a1 := sq_le_sq c1 h2
      rw [e4] at a1
      have a0 : 0 ≤ u.hi * u.hi := by
        by_cases hp : 0 ≤ u.hi
        · exact Int.mul_nonneg hp hp
        · have := Int.mul_nonneg (show 0 ≤ -u.hi by omega) (show 0 ≤ -u.hi by omega)
          rwa [Int.neg_mul_neg] at this
      have a2 := Int.mul_le_mul_of_nonneg_left hl a0
      have a3 := Int.mul_le_mul_of_nonneg_right s5 hn
      omega
    · have a1 := sq_le_sq (x := -P) (y := -u.lo * rl) (by omega) (by rw [Int.neg_mul]; omega)
      rw [e4, Int.neg_mul_neg, Int.neg_mul_neg] at a1
      have a0 : 0 ≤ u.lo * u.lo := by
        by_cases hp : 0 ≤ u.lo
        · exact Int.mul_nonneg hp hp
        · have := Int.mul_nonneg (show 0 ≤ -u.lo by omega) (show 0 ≤ -u.lo by omega)
          rwa [Int.neg_mul_neg] at this
      have a2 := Int.mul_le_mul_of_nonneg_left hl a0
      have a3 := Int.mul_le_mul_of_nonneg_right s4 hn
      omega

/-! Roots, where they are. -/
theorem root_ends {x : Iv} (h : ivRight (ivRoot x) = true) : 0 ≤ x.lo ∧ 0 ≤ (ivRoot x).lo ∧ (ivRoot x).lo ≤ (ivRoot x).hi ∧ (ivRoot x).lo * (ivRoot x).lo ≤ x.lo * 65536 ∧ x.hi * 65536 ≤ (ivRoot x).hi * (ivRoot x).hi := by
  have hx := rights_root h
  have b := right_bd hx
  have h0 : 0 ≤ x.lo := by
    by_cases h0 : x.lo < 0
    · rw [root_none h0] at h; cases h
    · omega
  obtain ⟨r1, r2, r3⟩ := rootN_yes (n := x.lo) ⟨h0, by omega⟩ false
  obtain ⟨s1, s2, s3⟩ := rootN_yes (n := x.hi) ⟨by omega, by omega⟩ true
  have u1 := up_ge (x.lo * 65536)
  have u2 := up_ge (x.hi * 65536)
  have f1 := flRoot_bd (x.lo * 65536) (by omega) (by omega)
  have f2 := flRoot_bd (x.hi * 65536) (by omega) (by omega)
  have m1 := flRoot_mono (n := x.lo * 65536) (m := x.hi * 65536) (by omega) (by omega) (by omega)
  have hg : x.hi * 65536 ≤ upRoot (x.hi * 65536) true * upRoot (x.hi * 65536) true := by
    unfold upRoot
    cases hc : (flRoot (x.hi * 65536) * flRoot (x.hi * 65536) == x.hi * 65536)
    · simp only [Bool.true_and, Bool.not_false, if_true]; omega
    · have := eq_of_beq hc
      simp only [Bool.true_and, Bool.not_true, Bool.false_eq_true, if_false]; omega
  have e : ivRoot x = ⟨upRoot (x.lo * 65536) false, upRoot (x.hi * 65536) true, false⟩ := by
    unfold ivRoot
    rw [hx, r1, s1]
    simp only [Bool.and_true, if_true]
    exact of_yes (by omega)
  rw [e]
  dsimp only
  refine ⟨h0, r2, by omega, ?_, hg⟩
  rw [u1.2.2]
  omega
theorem sqr_of_lo {a : Iv} (h : ivRight (ivSqr a) = true) : (ivSqr a).lo * 65536 ≤ a.lo * a.lo ∧ a.lo * a.lo ≤ (ivSqr a).hi * 65536 := by
  obtain ⟨s1, s2, s3, s4, s5, s6⟩ := sqr_ends h
  have b := right_bd (rights_sqr h)
  refine ⟨?_, s4⟩
  have q : 0 ≤ a.lo * a.lo := by
    by_cases hp : 0 ≤ a.lo
    · exact Int.mul_nonneg hp hp
    · have := Int.mul_nonneg (show 0 ≤ -a.lo by omega) (show 0 ≤ -a.lo by omega)
      rwa [Int.neg_mul_neg] at this
  by_cases c1 : 0 < a.lo
  · exact s2 c1
  · by_cases c2 : a.hi < 0
    · have := s3 c2
      have h2 := sq_le_sq (x := -a.hi) (y := -a.lo) (by omega) (by omega)
      rw [Int.neg_mul_neg, Int.neg_mul_neg] at h2
      omega
    · have := s1 (by omega)
      omega

end Go.Proofs.YtolfobgpgmfnpaaGreatDoor

namespace Go.Proofs.YtolfobgpgmfnpaaGreatDoor
set_option linter.unusedVariables false

def triLess (a b : Iv) : Int := if ivBoth a b then (if a.hi < b.lo then 1 else if b.hi ≤ a.lo then 2 else 0) else 0
def triNA (a b : Iv) : Int := if ivBoth a b then (if a.hi ≤ b.lo then 1 else if b.hi < a.lo then 2 else 0) else 0
def triNot (n : Int) : Int := if n = 1 then 2 else if n = 2 then 1 else 0
def triAnd (m n : Int) : Int := if m = 2 ∨ n = 2 then 2 else if m = 1 ∧ n = 1 then 1 else 0
def triOr (m n : Int) : Int := if m = 1 ∨ n = 1 then 1 else if m = 2 ∧ n = 2 then 2 else 0

theorem triLess_cases (a b : Iv) : (triLess a b = 1 ∧ ivBoth a b = true ∧ a.hi < b.lo) ∨ (triLess a b = 2 ∧ ivBoth a b = true ∧ b.hi ≤ a.lo) ∨ triLess a b = 0 := by
  unfold triLess
  cases ivBoth a b
  · simp
  · by_cases h : a.hi < b.lo
    · simp [h]
    · by_cases h' : b.hi ≤ a.lo <;> simp [h, h']
theorem triNA_cases (a b : Iv) : (triNA a b = 1 ∧ ivBoth a b = true ∧ a.hi ≤ b.lo) ∨ (triNA a b = 2 ∧ ivBoth a b = true ∧ b.hi < a.lo) ∨ triNA a b = 0 := by
  unfold triNA
  cases ivBoth a b
  · simp
  · by_cases h : a.hi ≤ b.lo
    · simp [h]
    · by_cases h' : b.hi < a.lo <;> simp [h, h']
theorem triLess_yes {a b : Iv} (h : ivBoth a b = true) (k : a.hi < b.lo) : triLess a b = 1 := by unfold triLess; simp [h, k]
theorem triLess_no {a b : Iv} (h : ivBoth a b = true) (k : b.hi ≤ a.lo) : triLess a b = 2 := by
  have r := both_bd h
  have : ¬ a.hi < b.lo := by
    intro hh
    have := r.1.2.2
    have := r.2.2.2
    omega
  unfold triLess; simp [h, k, this]
theorem triNA_yes {a b : Iv} (h : ivBoth a b = true) (k : a.hi ≤ b.lo) : triNA a b = 1 := by unfold triNA; simp [h, k]
theorem triNA_no {a b : Iv} (h : ivBoth a b = true) (k : b.hi < a.lo) : triNA a b = 2 := by
  have r := both_bd h
  have : ¬ a.hi ≤ b.lo := by
    intro hh
    have := r.1.2.2
    have := r.2.2.2
    omega
  unfold triNA; simp [h, k, this]
/-- Less of a and b is the opposite of 'not above' of b and a. -/
theorem less_not (a b : Iv) : triNot (triNA b a) = triLess a b := by
  unfold triNot triNA triLess
  rw [both_comm b a]
  cases h : ivBoth a b
  · simp
  · have r := both_bd h
    simp only [if_true]
    by_cases h1 : b.hi ≤ a.lo
    · have : ¬ a.hi < b.lo := by omega
      simp [h1, this]
    · by_cases h2 : a.hi < b.lo <;> simp [h1, h2]
theorem na_not (a b : Iv) : triNot (triLess b a) = triNA a b := by
  rw [← less_not b a]
  unfold triNot
  have h := triNA_cases a b
  rcases h with ⟨t, -⟩ | ⟨t, -⟩ | t <;> simp [t]
/-- What is said is said of less, too. -/
theorem less_part {x y u v : Iv} (h : Part u x) (k : Part v y) : (triLess x y = 1 → triLess u v = 1) ∧ (triLess x y = 2 → triLess u v = 2) ∧ (triNA x y = 1 → triNA u v = 1) ∧ (triNA x y = 2 → triNA u v = 2) := by
  obtain ⟨b1, b2⟩ := part_both h k
  obtain ⟨-, -, h1, h2⟩ := part_bd h |>.2 |> fun t => (⟨trivial, trivial, t.2.1, t.2.2⟩ : True ∧ True ∧ x.lo ≤ u.lo ∧ u.hi ≤ x.hi)
  obtain ⟨-, -, k1, k2⟩ := part_bd k |>.2 |> fun t => (⟨trivial, trivial, t.2.1, t.2.2⟩ : True ∧ True ∧ y.lo ≤ v.lo ∧ v.hi ≤ y.hi)
  refine ⟨fun e => ?_, fun e => ?_, fun e => ?_, fun e => ?_⟩
  · rcases triLess_cases x y with ⟨-, -, t⟩ | ⟨t, -⟩ | t
    · exact triLess_yes b1 (by omega)
    · omega
    · omega
  · rcases triLess_cases x y with ⟨t, -⟩ | ⟨-, -, t⟩ | t
    · omega
    · exact triLess_no b1 (by omega)
    · omega
  · rcases triNA_cases x y with ⟨-, -, t⟩ | ⟨t, -⟩ | t
    · exact triNA_yes b1 (by omega)
    · omega
    · omega
  · rcases triNA_cases x y with ⟨t, -⟩ | ⟨-, -, t⟩ | t
    · omega
    · exact triNA_no b1 (by omega)
    · omega
/-- The words' laws. -/
theorem tri_laws {x y z : Int} (hx : 0 ≤ x ∧ x ≤ 2) (hy : 0 ≤ y ∧ y ≤ 2) (hz : 0 ≤ z ∧ z ≤ 2) :
    (triNot (triNot x) = x ∧ triNot (triAnd x y) = triOr (triNot x) (triNot y) ∧ triAnd y x = triAnd x y ∧ triOr y x = triOr x y) ∧
    triAnd x (triAnd y z) = triAnd (triAnd x y) z ∧ triOr x (triOr y z) = triOr (triOr x y) z ∧ triAnd x x = x ∧ triAnd x (triOr y z) = triOr (triAnd x y) (triAnd x z) := by
  obtain rfl | rfl | rfl : x = 0 ∨ x = 1 ∨ x = 2 := by omega
  all_goals
    obtain rfl | rfl | rfl : y = 0 ∨ y = 1 ∨ y = 2 := by omega
    all_goals
      obtain rfl | rfl | rfl : z = 0 ∨ z = 1 ∨ z = 2 := by omega
      all_goals decide

end Go.Proofs.YtolfobgpgmfnpaaGreatDoor

namespace Go.Proofs.YtolfobgpgmfnpaaGreatDoor
set_option linter.unusedVariables false

def qDet (a b c : Iv) : Iv := ivSub (ivSqr b) (ivMul a c)
def qRoot (a b c : Iv) : Iv := ivDiv c (ivSub (ivRoot (qDet a b c)) b)
def qIs (a b c : Iv) : Int := if triNA ⟨0, 0, false⟩ (qDet a b c) = 1 then (if ivRight (qRoot a b c) then 1 else 0) else triNA ⟨0, 0, false⟩ (qDet a b c)
def qNear (a b c : Iv) : Iv := if qIs a b c = 1 then qRoot a b c else ivNone

theorem quad_cases (a b c : Iv) : (qIs a b c = 1 ∧ qNear a b c = qRoot a b c ∧ ivRight (qRoot a b c) = true ∧ ivRight (qDet a b c) = true ∧ 0 ≤ (qDet a b c).lo) ∨
    (qIs a b c = 2 ∧ qNear a b c = ivNone ∧ ivRight (qDet a b c) = true ∧ (qDet a b c).hi < 0) ∨ (qIs a b c = 0 ∧ qNear a b c = ivNone) := by
  unfold qNear
  rcases triNA_cases ⟨0, 0, false⟩ (qDet a b c) with ⟨e, hb, h⟩ | ⟨e, hb, h⟩ | e
  · cases hr : ivRight (qRoot a b c)
    · have hq : qIs a b c = 0 := by unfold qIs; rw [if_pos e, hr]; rfl
      rw [hq]
      exact .inr (.inr ⟨rfl, rfl⟩)
    · have hq : qIs a b c = 1 := by unfold qIs; rw [if_pos e, hr]; rfl
      rw [hq]
      exact .inl ⟨rfl, rfl, rfl, (both_iff.1 hb).2, h⟩
  · have hq : qIs a b c = 2 := by unfold qIs; rw [e]; rfl
    rw [hq]
    exact .inr (.inl ⟨rfl, rfl, (both_iff.1 hb).2, h⟩)
  · have hq : qIs a b c = 0 := by unfold qIs; rw [e]; rfl
    rw [hq]
    exact .inr (.inr ⟨rfl, rfl⟩)
theorem zero_both {d : Iv} (h : ivRight d = true) : ivBoth ⟨0, 0, false⟩ d = true := both_iff.2 ⟨by decide, h⟩
theorem quad_yes {a b c : Iv} (h : ivRight (qRoot a b c) = true) (k : ivRight (qDet a b c) = true) (l : 0 ≤ (qDet a b c).lo) : qIs a b c = 1 ∧ qNear a b c = qRoot a b c := by
  have hq : qIs a b c = 1 := by unfold qIs; rw [if_pos (triNA_yes (zero_both k) l), h]; rfl
  refine ⟨hq, ?_⟩
  unfold qNear
  rw [if_pos hq]
theorem quad_no {a b c : Iv} (k : ivRight (qDet a b c) = true) (l : (qDet a b c).hi < 0) : qIs a b c = 2 ∧ qNear a b c = ivNone := by
  have hq : qIs a b c = 2 := by unfold qIs; rw [triNA_no (zero_both k) l]; rfl
  refine ⟨hq, ?_⟩
  unfold qNear
  rw [hq]
  rfl

/-! Less in less. -/
theorem lessNeg {p x : Iv} (h : ivLess p x = true) : ivLess (ivNeg p) (ivNeg x) = true := by
  cases hx : ivRight x
  · exact lessBad (by rw [neg_bad hx, right_none])
  · exact less_neg (lessPart h hx)
theorem lessSub {p q x y : Iv} (h : ivLess p x = true) (k : ivLess q y = true) : ivLess (ivSub p q) (ivSub x y) = true := lessAdd h (lessNeg k)
theorem less_det {x y z p q r : Iv} (h : Part p x) (k : Part q y) (l : Part r z) : ivLess (qDet p q r) (qDet x y z) = true := lessSub (less_sqr k) (less_mul h l)
theorem less_qroot {x y z p q r : Iv} (h : Part p x) (k : Part q y) (l : Part r z) : ivLess (qRoot p q r) (qRoot x y z) = true :=
  lessDiv (partLess l) (lessSub (lessRoot (less_det h k l)) (partLess k))
theorem quad_less {x y z p q r : Iv} (h : Part p x) (k : Part q y) (l : Part r z) :
    (qIs x y z = 1 ∧ qIs p q r = 1 ∧ ivInside (qNear p q r) (qNear x y z) = true ∧ ivRight (qNear p q r) = true) ∨
    (qIs x y z = 2 ∧ qIs p q r = 2 ∧ ivRight (qNear p q r) = false) ∨ (qIs x y z = 0 ∧ qIs p q r = 1 ∧ ivRight (qNear p q r) = true) ∨
    (qIs x y z = 0 ∧ qIs p q r = 2 ∧ ivRight (qNear p q r) = false) ∨ (qIs x y z = 0 ∧ qIs p q r = 0 ∧ ivRight (qNear p q r) = false) := by
  have ld := less_det h k l
  have lr := less_qroot h k l
  rcases quad_cases x y z with ⟨e, n, hr, hd, h0⟩ | ⟨e, n, hd, h0⟩ | ⟨e, n⟩
  · have pd := lessPart ld hd
    have pr := lessPart lr hr
    have b := part_bd pd
    obtain ⟨e', n'⟩ := quad_yes (a := p) (b := q) (c := r) pr.1 pd.1 (by omega)
    refine .inl ⟨e, e', ?_, ?_⟩
    · rw [n, n']; exact inside_iff.2 ⟨pr.1, pr.2.1, pr.2.2⟩
    · rw [n']; exact pr.1
  · have pd := lessPart ld hd
    have b := part_bd pd
    obtain ⟨e', n'⟩ := quad_no (a := p) (b := q) (c := r) pd.1 (by omega)
    exact .inr (.inl ⟨e, e', by rw [n', right_none]⟩)
  · rcases quad_cases p q r with ⟨e', n', hr, -⟩ | ⟨e', n', -⟩ | ⟨e', n'⟩
    · exact .inr (.inr (.inl ⟨e, e', by rw [n', hr]⟩))
    · exact .inr (.inr (.inr (.inl ⟨e, e', by rw [n', right_none]⟩)))
    · exact .inr (.inr (.inr (.inr ⟨e, e', by rw [n', right_none]⟩)))

/-! What lies in what: numbers that are fractions, too: P / Q. -/
theorem add_ends {x y : Iv} (h : ivRight (ivAdd x y) = true) : (ivRight x = true ∧ ivRight y = true) ∧ (ivAdd x y).lo = x.lo + y.lo ∧ (ivAdd x y).hi = x.hi + y.hi := by
  have r := rights_add h
  refine ⟨r, ?_⟩
  unfold ivAdd at h ⊢
  rw [if_pos (both_iff.2 r)] at h ⊢
  rw [of_yes (right_of_of.1 h)]
  exact ⟨rfl, rfl⟩
theorem rights_neg {x : Iv} (h : ivRight (ivNeg x) = true) : ivRight x = true := by
  cases hx : ivRight x
  · rw [neg_bad hx, right_none] at h; cases h
  · rfl
theorem sub_ends {x y : Iv} (h : ivRight (ivSub x y) = true) : (ivRight x = true ∧ ivRight y = true) ∧ (ivSub x y).lo = x.lo - y.hi ∧ (ivSub x y).hi = x.hi - y.lo := by
  obtain ⟨⟨r1, r2⟩, e1, e2⟩ := add_ends (x := x) (y := ivNeg y) h
  have r3 := rights_neg r2
  rw [neg_form r3] at e1 e2
  exact ⟨⟨r1, r3⟩, by show (ivAdd x (ivNeg y)).lo = _; rw [neg_form r3, e1]; dsimp only; omega, by show (ivAdd x (ivNeg y)).hi = _; rw [neg_form r3, e2]; dsimp only; omega⟩
theorem two_ends {x : Iv} (h : ivRight (ivTimes x 2) = true) : ivRight x = true ∧ (ivTimes x 2).lo = 2 * x.lo ∧ (ivTimes x 2).hi = 2 * x.hi := by
  have r : ivRight x = true := by
    cases hx : ivRight x
    · unfold ivTimes at h
      rw [hx] at h
      cases h
    · rfl
  have b := right_bd r
  refine ⟨r, ?_⟩
  unfold ivTimes at h ⊢
  rw [r, show isIn 2 = true by decide] at h ⊢
  simp only [Bool.and_true, if_true] at h ⊢
  rw [of_yes (right_of_of.1 h)]
  dsimp only
  omega
theorem mul_frac {x y : Iv} {a P Q : Int} (h : ivRight (ivMul x y) = true) (hQ : 0 ≤ Q) (ha : x.lo ≤ a ∧ a ≤ x.hi) (hp : y.lo * Q ≤ P ∧ P ≤ y.hi * Q) :
    (ivMul x y).lo * 65536 * Q ≤ a * P ∧ a * P ≤ (ivMul x y).hi * 65536 * Q := by
  have r := rights_mul h
  unfold ivMul ivOut at h ⊢
  rw [if_pos (both_iff.2 r)] at h ⊢
  have hr := right_of_of.1 h
  rw [of_yes hr]
  simp only [fdiv_one] at hr ⊢
  have m := mul_between2 ha.1 ha.2 hp.1 hp.2
  have e : ∀ u v : Int, u * (v * Q) = u * v * Q := fun u v => (Int.mul_assoc u v Q).symm
  simp only [e] at m
  unfold min4 max4 at m
  have lo : ∀ t, min4 (x.lo * y.lo) (x.lo * y.hi) (x.hi * y.lo) (x.hi * y.hi) ≤ t → min4 (x.lo * y.lo) (x.lo * y.hi) (x.hi * y.lo) (x.hi * y.hi) / 65536 * 65536 * Q ≤ t * Q := fun t ht =>
    Int.mul_le_mul_of_nonneg_right (by omega) hQ
  have hi : ∀ t, t ≤ max4 (x.lo * y.lo) (x.lo * y.hi) (x.hi * y.lo) (x.hi * y.hi) → t * Q ≤ -(-max4 (x.lo * y.lo) (x.lo * y.hi) (x.hi * y.lo) (x.hi * y.hi) / 65536) * 65536 * Q := fun t ht =>
    Int.mul_le_mul_of_nonneg_right (by omega) hQ
  have l1 := lo (x.lo * y.lo) (by unfold min4; omega)
  have l2 := lo (x.lo * y.hi) (by unfold min4; omega)
  have l3 := lo (x.hi * y.lo) (by unfold min4; omega)
  have l4 := lo (x.hi * y.hi) (by unfold min4; omega)
  have h1 := hi (x.lo * y.lo) (by unfold max4; omega)
  have h2 := hi (x.lo * y.hi) (by unfold max4; omega)
  have h3 := hi (x.hi * y.lo) (by unfold max4; omega)
  have h4 := hi (x.hi * y.hi) (by unfold max4; omega)
  generalize min4 (x.lo * y.lo) (x.lo * y.hi) (x.hi * y.lo) (x.hi * y.hi) / 65536 * 65536 * Q = L at *
  generalize -(-max4 (x.lo * y.lo) (x.lo * y.hi) (x.hi * y.lo) (x.hi * y.hi) / 65536) * 65536 * Q = H at *
  omega
theorem sq_nonneg' (x : Int) : 0 ≤ x * x := by
  by_cases hp : 0 ≤ x
  · exact Int.mul_nonneg hp hp
  · have := Int.mul_nonneg (show 0 ≤ -x by omega) (show 0 ≤ -x by omega)
    rwa [Int.neg_mul_neg] at this
theorem sq_le_neg {x y : Int} (hx : x ≤ 0) (h : y ≤ x) : x * x ≤ y * y := by
  have := sq_le_sq (x := -x) (y := -y) (by omega) (by omega)
  rwa [Int.neg_mul_neg, Int.neg_mul_neg] at this
theorem sqr_frac {t : Iv} {P Q : Int} (h : ivRight (ivSqr t) = true) (hQ : 0 < Q) (hp : t.lo * Q ≤ P ∧ P ≤ t.hi * Q) :
    (ivSqr t).lo * 65536 * (Q * Q) ≤ P * P ∧ P * P ≤ (ivSqr t).hi * 65536 * (Q * Q) := by
  obtain ⟨s1, s2, s3, s4, s5, s6⟩ := sqr_ends h
  have b := right_bd (rights_sqr h)
  have e4 : ∀ x y : Int, x * y * (x * y) = x * x * (y * y) := fun x y => by rw [Int.mul_assoc, Int.mul_left_comm y x y, ← Int.mul_assoc]
  have hQQ : 0 ≤ Q * Q := sq_nonneg' Q
  have m := (sq_between hp.1 hp.2).1
  rw [e4, e4] at m
  have m1 := Int.mul_le_mul_of_nonneg_right s4 hQQ
  have m2 := Int.mul_le_mul_of_nonneg_right s5 hQQ
  refine ⟨?_, by omega⟩
  by_cases c1 : 0 < t.lo
  · have g := Int.mul_nonneg (show 0 ≤ t.lo by omega) (show 0 ≤ Q by omega)
    have n1 := sq_le_sq g hp.1
    rw [e4] at n1
    have n2 := Int.mul_le_mul_of_nonneg_right (s2 c1) hQQ
    omega
  · by_cases c2 : t.hi < 0
    · have g := Int.mul_nonneg (show 0 ≤ -t.hi by omega) (show 0 ≤ Q by omega)
      rw [Int.neg_mul] at g
      have n1 := sq_le_neg (x := t.hi * Q) (y := P) (by omega) hp.2
      rw [e4] at n1
      have n2 := Int.mul_le_mul_of_nonneg_right (s3 c2) hQQ
      omega
    · have n1 := s1 (by omega)
      have n2 := Int.mul_le_mul_of_nonneg_right (show (ivSqr t).lo * 65536 ≤ 0 by omega) hQQ
      have n3 := sq_nonneg' P
      omega

/-- The sum of squares at t. -/
def qSum (x y z t : Iv) : Iv := ivAdd (ivAdd (ivMul x (ivSqr t)) (ivTimes (ivMul y t) 2)) z
theorem sum_frac {x y z t : Iv} {a b c P Q : Int} (h : ivRight (qSum x y z t) = true) (hQ : 0 < Q) (ha : x.lo ≤ a ∧ a ≤ x.hi) (hb : y.lo ≤ b ∧ b ≤ y.hi) (hc : z.lo ≤ c ∧ c ≤ z.hi)
    (hp : t.lo * Q ≤ P ∧ P ≤ t.hi * Q) :
    (qSum x y z t).lo * (65536 * (65536 * (Q * Q))) ≤ a * (P * P) + 2 * (b * P) * (65536 * Q) + c * (65536 * (65536 * (Q * Q))) ∧
    a * (P * P) + 2 * (b * P) * (65536 * Q) + c * (65536 * (65536 * (Q * Q))) ≤ (qSum x y z t).hi * (65536 * (65536 * (Q * Q))) := by
  unfold qSum at h ⊢
  obtain ⟨⟨r1, r2⟩, e1, e2⟩ := add_ends h
  obtain ⟨⟨r3, r4⟩, e3, e4⟩ := add_ends r1
  obtain ⟨r5, e5, e6⟩ := two_ends r4
  rw [e1, e2, e3, e4, e5, e6]
  have hQQ : 0 ≤ Q * Q := sq_nonneg' Q
  have f1 := mul_frac (Q := 65536 * (Q * Q)) (P := P * P) r3 (by omega) ha (by rw [← Int.mul_assoc (ivSqr t).lo, ← Int.mul_assoc (ivSqr t).hi]; exact sqr_frac (rights_mul r3).2 hQ hp)
  have f2 := mul_frac r5 (by omega) hb hp
  have g1 := Int.mul_le_mul_of_nonneg_right f2.1 (show 0 ≤ 65536 * Q by omega)
  have g2 := Int.mul_le_mul_of_nonneg_right f2.2 (show 0 ≤ 65536 * Q by omega)
  have g3 := Int.mul_le_mul_of_nonneg_right hc.1 (show 0 ≤ 65536 * (65536 * (Q * Q)) by omega)
  have g4 := Int.mul_le_mul_of_nonneg_right hc.2 (show 0 ≤ 65536 * (65536 * (Q * Q)) by omega)
  have k : ∀ n : Int, n * 65536 * Q * (65536 * Q) = n * (65536 * (65536 * (Q * Q))) := fun n => by grind
  have k2 : ∀ n : Int, n * 65536 * (65536 * (Q * Q)) = n * (65536 * (65536 * (Q * Q))) := fun n => by grind
  rw [k] at g1 g2
  rw [k2] at f1
  rw [k2] at f1
  generalize 65536 * (65536 * (Q * Q)) = K at *
  rw [Int.add_mul, Int.add_mul, Int.add_mul, Int.add_mul, Int.mul_assoc 2, Int.mul_assoc 2, Int.mul_assoc 2]
  omega
theorem sum_id (a b c q : Int) : a * (c * 65536 * (c * 65536)) + 2 * (b * (c * 65536)) * (65536 * (q - b)) + c * (65536 * (65536 * ((q - b) * (q - b)))) = 65536 * (65536 * (c * (q * q - (b * b - a * c)))) := by grind
/-- What the number beneath the root has. -/
theorem det_has {x y z : Iv} {a b c : Int} (h : ivRight (qDet x y z) = true) (ha : x.lo ≤ a ∧ a ≤ x.hi) (hb : y.lo ≤ b ∧ b ≤ y.hi) (hc : z.lo ≤ c ∧ c ≤ z.hi) :
    (qDet x y z).lo * 65536 ≤ b * b - a * c ∧ b * b - a * c ≤ (qDet x y z).hi * 65536 := by
  obtain ⟨⟨r1, r2⟩, e1, e2⟩ := sub_ends (x := ivSqr y) (y := ivMul x z) h
  unfold qDet
  rw [e1, e2]
  have f1 := mul_frac (Q := 1) (P := c) r2 (by omega) ha (by omega)
  have f2 := sqr_frac (Q := 1) (P := b) r1 (by omega) (by omega)
  omega
/-- At a number q of the root's interval the sum's value lies in the sum. -/
theorem near_at {x y z : Iv} {a b c q : Int} (h : ivRight (qRoot x y z) = true) (hs : ivRight (qSum x y z (qRoot x y z)) = true) (ha : x.lo ≤ a ∧ a ≤ x.hi) (hb : y.lo ≤ b ∧ b ≤ y.hi) (hc : z.lo ≤ c ∧ c ≤ z.hi)
    (hq : (ivRoot (qDet x y z)).lo ≤ q ∧ q ≤ (ivRoot (qDet x y z)).hi) :
    ∃ K : Int, 0 < K ∧ (qSum x y z (qRoot x y z)).lo * K ≤ 65536 * (65536 * (c * (q * q - (b * b - a * c)))) ∧ 65536 * (65536 * (c * (q * q - (b * b - a * c)))) ≤ (qSum x y z (qRoot x y z)).hi * K := by
  obtain ⟨hb', h0, -⟩ := div_right (x := z) (y := ivSub (ivRoot (qDet x y z)) y) h
  obtain ⟨⟨r1, r2⟩, e1, e2⟩ := sub_ends (both_iff.1 hb').2
  have d := div_encloses (x := z) (y := ivSub (ivRoot (qDet x y z)) y) (p := c) (q := q - b) h hc (by omega)
  rw [← sum_id]
  have pos : ∀ Q : Int, 0 < Q → 0 < 65536 * (65536 * (Q * Q)) := fun Q hQ => by
    have := Int.mul_pos hQ hQ
    omega
  rcases d with ⟨hg, d1, d2⟩ | ⟨hg, d1, d2⟩
  · exact ⟨_, pos _ hg, sum_frac (P := c * 65536) (Q := q - b) hs hg ha hb hc ⟨d1, d2⟩⟩
  · have f := sum_frac (P := -(c * 65536)) (Q := -(q - b)) hs (by omega) ha hb hc (by rw [Int.mul_neg, Int.mul_neg]; exact ⟨by show -((qRoot x y z).lo * (q - b)) ≤ _; unfold qRoot; omega, by show _ ≤ -((qRoot x y z).hi * (q - b)); unfold qRoot; omega⟩)
    have p := pos (-(q - b)) (by omega)
    simp only [Int.mul_neg, Int.neg_mul, Int.neg_neg] at f p
    exact ⟨_, p, f⟩
/-- At the root that is told the sum of squares has 0. -/
theorem near_zero {x y z : Iv} (h : qIs x y z = 1) (hs : ivRight (qSum x y z (qNear x y z)) = true) : ivHas (qSum x y z (qNear x y z)) 0 = true := by
  rcases quad_cases x y z with ⟨-, n, hr, hd, h0⟩ | ⟨e, -⟩ | ⟨e, -⟩
  · rw [n] at hs ⊢
    obtain ⟨hb', -, -⟩ := div_right (x := z) (y := ivSub (ivRoot (qDet x y z)) y) hr
    obtain ⟨r0, r1⟩ := both_iff.1 hb'
    obtain ⟨⟨r2, r3⟩, -, -⟩ := sub_ends r1
    obtain ⟨-, r4, -⟩ := sub_ends (x := ivSqr y) (y := ivMul x z) hd
    have rx : ivRight x = true := by
      obtain ⟨⟨-, r5⟩, -⟩ := sub_ends (x := ivSqr y) (y := ivMul x z) hd
      exact (rights_mul r5).1
    have bx := right_bd rx
    have by' := right_bd r3
    have bz := right_bd r0
    have e := det_has (a := x.lo) (b := y.lo) (c := z.lo) hd (by omega) (by omega) (by omega)
    obtain ⟨q1, q2, q3, q4, q5⟩ := root_ends r2
    obtain ⟨K, k0, k1, k2⟩ := near_at (a := x.lo) (b := y.lo) (c := z.lo) (q := (ivRoot (qDet x y z)).lo) hr hs (by omega) (by omega) (by omega) (by omega)
    obtain ⟨M, m0, m1, m2⟩ := near_at (a := x.lo) (b := y.lo) (c := z.lo) (q := (ivRoot (qDet x y z)).hi) hr hs (by omega) (by omega) (by omega) (by omega)
    generalize hu : (ivRoot (qDet x y z)).lo * (ivRoot (qDet x y z)).lo - (y.lo * y.lo - x.lo * z.lo) = u at *
    generalize hv : (ivRoot (qDet x y z)).hi * (ivRoot (qDet x y z)).hi - (y.lo * y.lo - x.lo * z.lo) = v at *
    have u0 : u ≤ 0 := by omega
    have v0 : 0 ≤ v := by omega
    have lo_of : ∀ T s : Int, 0 < T → s * T ≤ 0 → s ≤ 0 := fun T s hT hh => by
      by_cases hp : s ≤ 0
      · exact hp
      · have := Int.mul_pos (show 0 < s by omega) hT
        omega
    have hi_of : ∀ T s : Int, 0 < T → 0 ≤ s * T → 0 ≤ s := fun T s hT hh => by
      by_cases hp : 0 ≤ s
      · exact hp
      · have := Int.mul_pos (show 0 < -s by omega) hT
        rw [Int.neg_mul] at this
        omega
    unfold ivHas
    rw [hs]
    simp only [Bool.true_and, Bool.and_eq_true, decide_eq_true_eq]
    by_cases hc : 0 ≤ z.lo
    · have a1 := Int.mul_nonneg hc (show 0 ≤ -u by omega)
      rw [Int.mul_neg] at a1
      have a2 := Int.mul_nonneg hc v0
      exact ⟨lo_of K _ k0 (by omega), hi_of M _ m0 (by omega)⟩
    · have a1 := Int.mul_nonneg (show 0 ≤ -z.lo by omega) (show 0 ≤ -u by omega)
      rw [Int.neg_mul_neg] at a1
      have a2 := Int.mul_nonneg (show 0 ≤ -z.lo by omega) v0
      rw [Int.neg_mul] at a2
      exact ⟨lo_of M _ m0 (by omega), hi_of K _ k0 (by omega)⟩
  · omega
  · omega

/-! Roots that are whole. -/
theorem sq_succ (r : Int) : (r + 1) * (r + 1) = r * r + 2 * r + 1 := by grind
theorem root_has {d : Iv} {r : Int} (h : ivRight (ivRoot d) = true) (h0 : 0 ≤ r) (hr : d.lo * 65536 ≤ r * r ∧ r * r ≤ d.hi * 65536) : (ivRoot d).lo ≤ r ∧ r ≤ (ivRoot d).hi := by
  obtain ⟨q1, q2, q3, q4, q5⟩ := root_ends h
  constructor
  · by_cases c : (ivRoot d).lo ≤ r
    · exact c
    · have := sq_le_sq (x := r + 1) (y := (ivRoot d).lo) (by omega) (by omega)
      rw [sq_succ] at this
      omega
  · by_cases c : r ≤ (ivRoot d).hi
    · exact c
    · have := sq_le_sq (x := (ivRoot d).hi + 1) (y := r) (by omega) (by omega)
      rw [sq_succ] at this
      omega
/-- Of numbers whose root is whole: what is told is not No, and where it is Yes c by r - b lies in it. -/
theorem near_whole {x y z : Iv} {a b c r p : Int} (ha : x.lo ≤ a ∧ a ≤ x.hi) (hb : y.lo ≤ b ∧ b ≤ y.hi) (hc : z.lo ≤ c ∧ c ≤ z.hi) (h0 : 0 ≤ r) (hr : r * r = b * b - a * c) (hp : c * 65536 = p * (r - b)) :
    qIs x y z ≠ 2 ∧ (qIs x y z = 1 → ivHas (qNear x y z) p = true) := by
  rcases quad_cases x y z with ⟨e, n, hr', hd, h0'⟩ | ⟨e, n, hd, h0'⟩ | ⟨e, n⟩
  · refine ⟨by omega, fun _ => ?_⟩
    rw [n]
    have e := det_has (a := a) (b := b) (c := c) hd ha hb hc
    obtain ⟨hb', -, -⟩ := div_right (x := z) (y := ivSub (ivRoot (qDet x y z)) y) hr'
    obtain ⟨r0, r1⟩ := both_iff.1 hb'
    obtain ⟨⟨r2, r3⟩, e1, e2⟩ := sub_ends r1
    have hq := root_has (r := r) r2 h0 (by omega)
    have d := div_encloses (x := z) (y := ivSub (ivRoot (qDet x y z)) y) (p := c) (q := r - b) hr' hc (by omega)
    rw [hp] at d
    change (0 < r - b ∧ (qRoot x y z).lo * (r - b) ≤ p * (r - b) ∧ p * (r - b) ≤ (qRoot x y z).hi * (r - b)) ∨ (r - b < 0 ∧ p * (r - b) ≤ (qRoot x y z).lo * (r - b) ∧ (qRoot x y z).hi * (r - b) ≤ p * (r - b)) at d
    unfold ivHas
    rw [hr']
    simp only [Bool.true_and, Bool.and_eq_true, decide_eq_true_eq]
    rcases d with ⟨hg, d1, d2⟩ | ⟨hg, d1, d2⟩
    · exact ⟨Int.le_of_mul_le_mul_right d1 hg, Int.le_of_mul_le_mul_right d2 hg⟩
    · rw [← Int.neg_le_neg_iff, ← Int.mul_neg, ← Int.mul_neg] at d1 d2
      exact ⟨Int.le_of_mul_le_mul_right d1 (by omega), Int.le_of_mul_le_mul_right d2 (by omega)⟩
  · have e := det_has (a := a) (b := b) (c := c) hd ha hb hc
    have := sq_nonneg' r
    omega
  · exact ⟨by omega, fun h => by omega⟩

end Go.Proofs.YtolfobgpgmfnpaaGreatDoor

namespace Go.Proofs.YtolfobgpgmfnpaaGreatDoor
set_option linter.unusedVariables false

def glSum (l b c : Iv) : Iv := ivDiv (ivMul b l) (ivSub l c)
def ixOf (l b0 c0 b1 c1 b2 c2 : Iv) : Iv := ivRoot (ivAdd (ivAdd (ivAdd (ivPoint 65536) (glSum l b0 c0)) (glSum l b1 c1)) (glSum l b2 c2))

theorem less_refl (x : Iv) : ivLess x x = true := by
  cases h : ivRight x
  · exact lessBad h
  · exact partLess ⟨h, h, Int.le_refl _, Int.le_refl _⟩
theorem lessSqr {p x : Iv} (h : ivLess p x = true) : ivLess (ivSqr p) (ivSqr x) = true := by
  cases hx : ivRight x
  · refine lessBad ?_
    unfold ivSqr
    rw [hx]
    rfl
  · exact less_sqr (lessPart h hx)
theorem sum_less {p x : Iv} (h : ivLess p x = true) (b c : Iv) : ivLess (glSum p b c) (glSum x b c) = true :=
  lessDiv (lessMul (less_refl b) h) (lessSub h (less_refl c))
theorem ix_less {p x : Iv} (h : ivLess p x = true) (b0 c0 b1 c1 b2 c2 : Iv) : ivLess (ixOf (ivSqr p) b0 c0 b1 c1 b2 c2) (ixOf (ivSqr x) b0 c0 b1 c1 b2 c2) = true := by
  have hs := lessSqr h
  exact lessRoot (lessAdd (lessAdd (lessAdd (less_refl _) (sum_less hs _ _)) (sum_less hs _ _)) (sum_less hs _ _))

/-! ### One sum alone -/
theorem mul_le {a b c d : Int} (h1 : a ≤ b) (h2 : c ≤ d) (h3 : 0 ≤ c) (h4 : 0 ≤ b) : a * c ≤ b * d := Int.mul_le_mul h1 h2 h3 h4
theorem root_yes {a : Iv} (h : ivRight a = true) (h0 : 0 ≤ a.lo) : ivRoot a = ⟨upRoot (a.lo * 65536) false, upRoot (a.hi * 65536) true, false⟩ ∧ ivRight (ivRoot a) = true := by
  have b := right_bd h
  obtain ⟨r1, r2, r3⟩ := rootN_yes (n := a.lo) ⟨h0, by omega⟩ false
  obtain ⟨s1, s2, s3⟩ := rootN_yes (n := a.hi) ⟨by omega, by omega⟩ true
  have u1 := up_ge (a.lo * 65536)
  have u2 := up_ge (a.hi * 65536)
  have m1 := flRoot_mono (n := a.lo * 65536) (m := a.hi * 65536) (by omega) (by omega) (by omega)
  have e : ivRoot a = ⟨upRoot (a.lo * 65536) false, upRoot (a.hi * 65536) true, false⟩ := by
    unfold ivRoot
    rw [h, r1, s1]
    simp only [Bool.and_true, if_true]
    exact of_yes (by omega)
  exact ⟨e, by rw [e, right_of]; omega⟩
theorem root_up {a b : Iv} (ha : ivRight a = true) (hb : ivRight b = true) (h0 : 0 ≤ a.lo) (h1 : a.lo ≤ b.lo) (h2 : a.hi ≤ b.hi) : (ivRoot a).lo ≤ (ivRoot b).lo ∧ (ivRoot a).hi ≤ (ivRoot b).hi := by
  have p := right_bd ha
  have q := right_bd hb
  rw [(root_yes ha h0).1, (root_yes hb (by omega)).1]
  refine ⟨?_, upRoot_mono (by omega) (by omega) (by omega)⟩
  show upRoot (a.lo * 65536) false ≤ upRoot (b.lo * 65536) false
  rw [(up_ge _).2.2, (up_ge _).2.2]
  exact flRoot_mono (by omega) (by omega) (by omega)

/-- The light's square: not small, not wide. -/
structure Light (l : Iv) : Prop where
  no : l.no = false
  lo : 6103 ≤ l.lo
  le : l.lo ≤ l.hi
  hi : l.hi ≤ 54945
  wide : l.hi ≤ l.lo + 17
theorem light_of (a w : Int) (h0 : 20000 ≤ a) (h1 : a < 60000) (h2 : 0 ≤ w) (h3 : w < 9) : Light (ivSqr (hWide a w)) := by
  have e : hWide a w = ⟨a, a + w, false⟩ := by
    unfold hWide within
    rw [show max (-1073741824) (min 1073741824 a) = a by omega, show min 1073741824 (a + w) = a + w by omega]
  have hr : ivRight ⟨a, a + w, false⟩ = true := by rw [right_of]; omega
  have h00 : ivHas ⟨a, a + w, false⟩ 0 = false := by
    unfold ivHas
    rw [hr]
    simp
    omega
  have m1 : a * a ≤ (a + w) * (a + w) := mul_le (by omega) (by omega) (by omega) (by omega)
  have m2 : 20000 * 20000 ≤ a * a := mul_le h0 h0 (by omega) (by omega)
  have m3 : (a + w) * (a + w) ≤ 60007 * 60007 := mul_le (by omega) (by omega) (by omega) (by omega)
  have m4 : (a + w) * (a + w) = a * a + (2 * a + w) * w := by grind
  have m5 : (2 * a + w) * w ≤ 120006 * 8 := mul_le (by omega) (by omega) (by omega) (by omega)
  have f : ivSqr ⟨a, a + w, false⟩ = ivOut (a * a) ((a + w) * (a + w)) := by
    unfold ivSqr
    rw [hr, h00]
    simp only [if_true, Bool.false_eq_true, if_false]
    rw [Int.min_eq_left m1, Int.max_eq_right m1]
  rw [e, f]
  unfold ivOut
  rw [fdiv_one, fdiv_one, of_yes (by omega)]
  exact ⟨rfl, by dsimp only; omega, by dsimp only; omega, by dsimp only; omega, by dsimp only; omega⟩

/-- What one sum is, of numbers that are not below 0. -/
theorem sum_form {l b : Iv} (hl : Light l) (hb : ivRight b = true) (h0 : 0 ≤ b.lo) (h1 : b.hi ≤ 2000000) :
    ∃ q1 q2 m1 m2 : Int, glSum l b ⟨0, 0, false⟩ = ⟨q1, q2, false⟩ ∧ m1 = (b.lo * l.lo) / 65536 ∧ m2 = -((-(b.hi * l.hi)) / 65536) ∧ q1 = (m1 * 65536) / l.hi ∧ q2 = -((-(m2 * 65536)) / l.lo) ∧
      0 ≤ m1 ∧ m1 ≤ m2 ∧ 0 ≤ q1 ∧ q1 ≤ q2 ∧ q2 ≤ 3000000 ∧ q1 ≤ b.lo ∧ b.hi ≤ q2 := by
  obtain ⟨hno, l1, l2, l3, l4⟩ := hl
  have hbd := right_bd hb
  have hlr : ivRight l = true := by rw [right_iff]; exact ⟨hno, by omega⟩
  have p1 : b.lo * l.lo ≤ b.lo * l.hi := Int.mul_le_mul_of_nonneg_left l2 h0
  have p2 : b.lo * l.hi ≤ b.hi * l.hi := Int.mul_le_mul_of_nonneg_right (by omega) (by omega)
  have p3 : b.lo * l.lo ≤ b.hi * l.lo := Int.mul_le_mul_of_nonneg_right (by omega) (by omega)
  have p4 : b.hi * l.lo ≤ b.hi * l.hi := Int.mul_le_mul_of_nonneg_left l2 (by omega)
  have p5 : 0 ≤ b.lo * l.lo := Int.mul_nonneg h0 (by omega)
  have p6 : b.hi * l.hi ≤ 2000000 * 54945 := mul_le h1 l3 (by omega) (by omega)
  obtain ⟨m1, hm1⟩ : ∃ m, (b.lo * l.lo) / 65536 = m := ⟨_, rfl⟩
  obtain ⟨m2, hm2⟩ : ∃ m, -((-(b.hi * l.hi)) / 65536) = m := ⟨_, rfl⟩
  have em : ivMul b l = ⟨m1, m2, false⟩ := by
    unfold ivMul
    rw [both_iff.2 ⟨hb, hlr⟩, if_pos rfl, show min4 (b.lo * l.lo) (b.lo * l.hi) (b.hi * l.lo) (b.hi * l.hi) = b.lo * l.lo by unfold min4; omega,
      show max4 (b.lo * l.lo) (b.lo * l.hi) (b.hi * l.lo) (b.hi * l.hi) = b.hi * l.hi by unfold max4; omega]
    unfold ivOut
    rw [fdiv_one, fdiv_one, of_yes (by omega), hm1, hm2]
  have es : ivSub l ⟨0, 0, false⟩ = l := by
    have : ivNeg ⟨0, 0, false⟩ = ⟨0, 0, false⟩ := rfl
    unfold ivSub
    rw [this]
    exact add_zero hlr
  have mr : ivRight ⟨m1, m2, false⟩ = true := by rw [right_of]; omega
  have hoff : Off l := by unfold Off; omega
  have m0 : 0 ≤ m1 ∧ m1 ≤ m2 := by omega
  have k1 : m1 * 65536 ≤ b.lo * l.lo := by omega
  have k2 : b.hi * l.hi ≤ m2 * 65536 := by omega
  have k3 : m2 * 65536 ≤ b.hi * l.hi + 65536 := by omega
  have eF : ∀ x y : Int, 0 < y → qF x y = x * 65536 / y := fun x y hy => Int.fdiv_eq_ediv_of_nonneg _ (by omega)
  have eC : ∀ x y : Int, 0 < y → qC x y = -((-(x * 65536)) / y) := fun x y hy => by unfold qC; rw [Int.fdiv_eq_ediv_of_nonneg _ (by omega)]
  have lop : (0 : Int) < l.lo := by omega
  have hip : (0 : Int) < l.hi := by omega
  -- what a quotient is, by its bounds
  have F1 : ∀ {k x y : Int}, 0 < y → (k ≤ qF x y ↔ k * y ≤ x * 65536) := fun hy => fl_pos hy
  have C1 : ∀ {k x y : Int}, 0 < y → (qC x y ≤ k ↔ x * 65536 ≤ k * y) := fun hy => ce_pos hy
  have fc : ∀ {x y : Int}, 0 < y → qF x y ≤ qC x y := fun hy => fl_le_ce _ (by omega)
  have fm : ∀ {x x' y y' : Int}, 0 < y → 0 < y' → 0 ≤ x → x ≤ x' → y' ≤ y → qF x y ≤ qF x' y' := fun {x x' y y'} hy hy' h1 h2 h3 => by
    rw [F1 hy']
    have a1 : qF x y * y ≤ x * 65536 := (F1 hy).1 (Int.le_refl _)
    have a2 : 0 ≤ qF x y := by rw [F1 hy]; omega
    have a3 : qF x y * y' ≤ qF x y * y := Int.mul_le_mul_of_nonneg_left h3 a2
    omega
  have cm : ∀ {x x' y y' : Int}, 0 < y → 0 < y' → 0 ≤ x → x ≤ x' → y' ≤ y → qC x y ≤ qC x' y' := fun {x x' y y'} hy hy' h1 h2 h3 => by
    rw [C1 hy]
    have a1 : x' * 65536 ≤ qC x' y' * y' := (C1 hy').1 (Int.le_refl _)
    have a0 := fc (x := x') hy'
    have a2 : 0 ≤ qF x' y' := by rw [F1 hy']; omega
    have a3 : qC x' y' * y' ≤ qC x' y' * y := Int.mul_le_mul_of_nonneg_left h3 (by omega)
    omega
  have g1 := fm (x := m1) (x' := m1) hip lop m0.1 (Int.le_refl _) l2
  have g2 := fm (x := m1) (x' := m2) hip hip m0.1 m0.2 (Int.le_refl _)
  have g3 := fm (x := m1) (x' := m2) hip lop m0.1 m0.2 l2
  have c1 := cm (x := m1) (x' := m2) lop lop m0.1 m0.2 (Int.le_refl _)
  have c2 := cm (x := m1) (x' := m2) hip lop m0.1 m0.2 l2
  have c3 := cm (x := m2) (x' := m2) hip lop (by omega) (Int.le_refl _) l2
  have z1 : 0 ≤ qF m1 l.hi := by rw [F1 hip]; omega
  have t1 := fc (x := m1) lop
  have t2 := fc (x := m1) hip
  have t3 := fc (x := m2) lop
  have t4 := fc (x := m2) hip
  have u1 : qC m2 l.lo ≤ 3000000 := by
    rw [C1 lop]
    have v1 : b.hi * l.hi ≤ b.hi * (l.lo + 17) := Int.mul_le_mul_of_nonneg_left l4 (by omega)
    have v2 : b.hi * (l.lo + 17) = b.hi * l.lo + b.hi * 17 := Int.mul_add _ _ _
    have v3 : b.hi * l.lo ≤ 2000000 * l.lo := Int.mul_le_mul_of_nonneg_right h1 (by omega)
    omega
  have ed : glSum l b ⟨0, 0, false⟩ = ⟨qF m1 l.hi, qC m2 l.lo, false⟩ := by
    unfold glSum
    rw [em, es, div_yes (both_iff.2 ⟨mr, hlr⟩) hoff (by dsimp only; omega)]
    dsimp only
    rw [show min4 (qF m1 l.lo) (qF m1 l.hi) (qF m2 l.lo) (qF m2 l.hi) = qF m1 l.hi by unfold min4; omega, show max4 (qC m1 l.lo) (qC m1 l.hi) (qC m2 l.lo) (qC m2 l.hi) = qC m2 l.lo by unfold max4; omega, of_yes (by omega)]
  have w1 : qF m1 l.hi ≤ b.lo := by
    apply Classical.byContradiction
    intro hn
    have a1 : qF m1 l.hi * l.hi ≤ m1 * 65536 := (F1 hip).1 (Int.le_refl _)
    have a2 : (b.lo + 1) * l.hi ≤ qF m1 l.hi * l.hi := Int.mul_le_mul_of_nonneg_right (by omega) (by omega)
    rw [Int.add_mul, Int.one_mul] at a2
    omega
  have w2 : b.hi ≤ qC m2 l.lo := by
    apply Classical.byContradiction
    intro hn
    have a1 : m2 * 65536 ≤ qC m2 l.lo * l.lo := (C1 lop).1 (Int.le_refl _)
    have a2 : qC m2 l.lo * l.lo ≤ (b.hi - 1) * l.lo := Int.mul_le_mul_of_nonneg_right (by omega) (by omega)
    rw [Int.sub_mul, Int.one_mul] at a2
    omega
  exact ⟨_, _, m1, m2, ed, hm1.symm, hm2.symm, eF _ _ hip, eC _ _ lop, m0.1, m0.2, z1, by omega, u1, w1, w2⟩
theorem sum_zero {l : Iv} (hl : Light l) : glSum l ⟨0, 0, false⟩ ⟨589824, 589824, false⟩ = ⟨0, 0, false⟩ := by
  obtain ⟨hno, l1, l2, l3, l4⟩ := hl
  have hlr : ivRight l = true := by rw [right_iff]; exact ⟨hno, by omega⟩
  have zr : ivRight ⟨0, 0, false⟩ = true := rfl
  have em : ivMul ⟨0, 0, false⟩ l = ⟨0, 0, false⟩ := by
    unfold ivMul
    rw [both_iff.2 ⟨zr, hlr⟩, if_pos rfl]
    simp only [Int.zero_mul]
    rfl
  have es : ivSub l ⟨589824, 589824, false⟩ = ⟨l.lo - 589824, l.hi - 589824, false⟩ := by
    have : ivNeg ⟨589824, 589824, false⟩ = ⟨-589824, -589824, false⟩ := rfl
    unfold ivSub
    rw [this]
    unfold ivAdd
    rw [both_iff.2 ⟨hlr, rfl⟩, if_pos rfl]
    exact of_yes (by dsimp only; omega)
  have q0 : ∀ y : Int, qF 0 y = 0 ∧ qC 0 y = 0 := fun y => by unfold qF qC; simp
  have hr : ivRight ⟨l.lo - 589824, l.hi - 589824, false⟩ = true := by rw [right_of]; omega
  unfold glSum
  rw [em, es, div_yes (both_iff.2 ⟨zr, hr⟩) (by unfold Off; dsimp only; omega) (by dsimp only; rw [(q0 _).1, (q0 _).2, (q0 _).1, (q0 _).2]; omega)]
  dsimp only
  rw [(q0 _).1, (q0 _).2, (q0 _).1, (q0 _).2]
  rfl
theorem ix_one {l b : Iv} (hl : Light l) (hb : ivRight b = true) (h0 : 0 ≤ b.lo) (h1 : b.hi ≤ 2000000) :
    ∃ q1 q2 : Int, glSum l b ⟨0, 0, false⟩ = ⟨q1, q2, false⟩ ∧ 0 ≤ q1 ∧ q1 ≤ q2 ∧ q2 ≤ 3000000 ∧ q1 ≤ b.lo ∧ b.hi ≤ q2 ∧
      ixOf l b ⟨0, 0, false⟩ ⟨0, 0, false⟩ ⟨589824, 589824, false⟩ ⟨0, 0, false⟩ ⟨589824, 589824, false⟩ = ivRoot ⟨65536 + q1, 65536 + q2, false⟩ ∧ ivRight ⟨65536 + q1, 65536 + q2, false⟩ = true := by
  obtain ⟨q1, q2, m1, m2, e, -, -, -, -, -, -, a1, a2, a3, a4, a5⟩ := sum_form hl hb h0 h1
  have hS : ivRight ⟨65536 + q1, 65536 + q2, false⟩ = true := by rw [right_of]; omega
  refine ⟨q1, q2, e, a1, a2, a3, a4, a5, ?_, hS⟩
  have hp : ivPoint 65536 = ⟨65536, 65536, false⟩ := rfl
  have hq : ivRight ⟨q1, q2, false⟩ = true := by rw [right_of]; omega
  unfold ixOf
  rw [e, sum_zero hl, hp]
  have ea : ivAdd ⟨65536, 65536, false⟩ ⟨q1, q2, false⟩ = ⟨65536 + q1, 65536 + q2, false⟩ := by
    unfold ivAdd
    rw [both_iff.2 ⟨rfl, hq⟩, if_pos rfl]
    exact of_yes (by dsimp only; omega)
  rw [ea, add_zero hS, add_zero hS]
/-- Of one sum alone, whose C is 0: the index is right, its square has 1 and B; of more B it is not less. -/
theorem sums_true {l b b' : Iv} {n : Int} (hl : Light l) (hb : ivRight b = true) (hb' : ivRight b' = true) (h0 : 0 ≤ b.lo) (h1 : b'.hi ≤ 2000000) (h2 : b.lo ≤ b'.lo) (h3 : b.hi ≤ b'.hi) (hn : b.lo * 10 ≤ n * 65536 ∧ n * 65536 ≤ b.hi * 10)
    {x y : Iv} (hx : x = ixOf l b ⟨0, 0, false⟩ ⟨0, 0, false⟩ ⟨589824, 589824, false⟩ ⟨0, 0, false⟩ ⟨589824, 589824, false⟩) (hy : y = ixOf l b' ⟨0, 0, false⟩ ⟨0, 0, false⟩ ⟨589824, 589824, false⟩ ⟨0, 0, false⟩ ⟨589824, 589824, false⟩) :
    ivRight x = true ∧ ivRight y = true ∧ (ivSqr x).lo * 10 ≤ (10 + n) * 65536 ∧ (10 + n) * 65536 ≤ (ivSqr x).hi * 10 ∧ x.hi ≤ y.hi ∧ x.lo ≤ y.lo := by
  have c1 := right_bd hb
  have c2 := right_bd hb'
  obtain ⟨q1, q2, e, a1, a2, a3, a4, a5, ex, hS⟩ := ix_one hl hb h0 (by omega)
  obtain ⟨r1, r2, f, g1, g2, g3, g4, g5, ey, hT⟩ := ix_one hl hb' (by omega) h1
  rw [ex] at hx
  rw [ey] at hy
  have rx := (root_yes hS (by dsimp only; omega)).2
  have ry := (root_yes hT (by dsimp only; omega)).2
  obtain ⟨v1, v2, v3, v4, v5⟩ := root_ends rx
  -- the sum's monotony
  have hm : q1 ≤ r1 ∧ q2 ≤ r2 := by
    obtain ⟨q1', q2', m1, m2, e', hm1, hm2, hq1, hq2, k1, k2, -⟩ := sum_form hl hb h0 (by omega)
    obtain ⟨r1', r2', n1, n2, f', hn1, hn2, hr1, hr2, k3, k4, -⟩ := sum_form hl hb' (by omega) h1
    rw [e] at e'
    rw [f] at f'
    injection e' with e1 e2
    injection f' with f1 f2
    subst e1 e2 f1 f2
    obtain ⟨hno, l1, l2, l3, l4⟩ := hl
    have p1 : b.lo * l.lo ≤ b'.lo * l.lo := Int.mul_le_mul_of_nonneg_right h2 (by omega)
    have p2 : b.hi * l.hi ≤ b'.hi * l.hi := Int.mul_le_mul_of_nonneg_right h3 (by omega)
    have s1 : m1 ≤ n1 := by omega
    have s2 : m2 ≤ n2 := by omega
    rw [hq1, hr1, hq2, hr2]
    refine ⟨Int.ediv_le_ediv (by omega) (by omega), ?_⟩
    have := Int.ediv_le_ediv (a := -(n2 * 65536)) (b := -(m2 * 65536)) (c := l.lo) (by omega) (by omega)
    omega
  obtain ⟨w1, w2⟩ := root_up hS hT (by dsimp only; omega) (by dsimp only; omega) (by dsimp only; omega)
  have hsq : ivRight (ivSqr (ivRoot ⟨65536 + q1, 65536 + q2, false⟩)) = true := by
    obtain ⟨b1, b2⟩ := root_yes hS (by dsimp only; omega)
    have f1 := flRoot_bd ((65536 + q2) * 65536) (by omega) (by omega)
    have f2 := up_ge ((65536 + q2) * 65536)
    have f3 := flRoot_le ((65536 + q2) * 65536) 449999 (by omega) (by omega) (by omega) (by omega)
    have hh : (ivRoot ⟨65536 + q1, 65536 + q2, false⟩).hi ≤ 450000 := by rw [b1]; dsimp only; omega
    have hr2 : (ivRoot ⟨65536 + q1, 65536 + q2, false⟩).hi * (ivRoot ⟨65536 + q1, 65536 + q2, false⟩).hi ≤ 450000 * 450000 := mul_le hh hh (by omega) (by omega)
    have hr1 : (ivRoot ⟨65536 + q1, 65536 + q2, false⟩).lo * (ivRoot ⟨65536 + q1, 65536 + q2, false⟩).lo ≤ (ivRoot ⟨65536 + q1, 65536 + q2, false⟩).hi * (ivRoot ⟨65536 + q1, 65536 + q2, false⟩).hi := mul_le v3 v3 v2 (by omega)
    have hr0 : 0 ≤ (ivRoot ⟨65536 + q1, 65536 + q2, false⟩).lo * (ivRoot ⟨65536 + q1, 65536 + q2, false⟩).lo := Int.mul_nonneg v2 v2
    generalize (ivRoot ⟨65536 + q1, 65536 + q2, false⟩) = R at *
    unfold ivSqr
    rw [b2, if_pos rfl]
    unfold ivOut
    split
    · rw [Int.max_eq_right hr1, fdiv_one, fdiv_one, of_yes (by omega), right_of]; omega
    · rw [Int.max_eq_right hr1, Int.min_eq_left hr1, fdiv_one, fdiv_one, of_yes (by omega), right_of]; omega
  have z1 := sqr_of_lo hsq
  have z2 : (ivRoot ⟨65536 + q1, 65536 + q2, false⟩).hi * (ivRoot ⟨65536 + q1, 65536 + q2, false⟩).hi ≤ (ivSqr (ivRoot ⟨65536 + q1, 65536 + q2, false⟩)).hi * 65536 := by
    obtain ⟨b1, b2⟩ := root_yes hS (by dsimp only; omega)
    have hr1 : (ivRoot ⟨65536 + q1, 65536 + q2, false⟩).lo * (ivRoot ⟨65536 + q1, 65536 + q2, false⟩).lo ≤ (ivRoot ⟨65536 + q1, 65536 + q2, false⟩).hi * (ivRoot ⟨65536 + q1, 65536 + q2, false⟩).hi := mul_le v3 v3 v2 (by omega)
    have hq := hsq
    generalize (ivRoot ⟨65536 + q1, 65536 + q2, false⟩) = R at *
    unfold ivSqr at hq ⊢
    rw [b2, if_pos rfl] at hq ⊢
    unfold ivOut at hq ⊢
    split
    · rename_i hz
      rw [if_pos hz, Int.max_eq_right hr1] at hq
      rw [Int.max_eq_right hr1, of_yes (right_of_of.1 hq)]
      simp only [fdiv_one]
      omega
    · rename_i hz
      rw [if_neg hz, Int.max_eq_right hr1] at hq
      rw [Int.max_eq_right hr1, of_yes (right_of_of.1 hq)]
      simp only [fdiv_one]
      omega
  subst hx hy
  dsimp only at v4 v5 w1 w2
  exact ⟨rx, ry, by omega, by omega, w2, w1⟩
end Go.Proofs.YtolfobgpgmfnpaaGreatDoor
