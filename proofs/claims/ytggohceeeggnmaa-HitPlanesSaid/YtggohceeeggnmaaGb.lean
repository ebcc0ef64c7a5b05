/-
  Intervals of steps, in plain numbers: what chapter 2's calls come to. Nothing of the program stands here.
  Intervals of steps, in plain numbers: the plain saying's products and squares are the document's.
  What the statements of chapter 2 come to, in plain numbers.
  Intervals of steps, in plain numbers: what is turned about 0; less in less, one behind the other; squares and quotients of one length.
  What can be said, in plain numbers: chapter 3's calls. Unsure is 0, Yes is 1, No is 2.
  Where a square sum is nothing, in plain numbers: the root that is told, less of less, what lies in it.
-/
import Derived.Test.YtggohceeeggnmaaGa

namespace Go.Proofs.Ytggohceeeggnmaa
set_option linter.unusedVariables false

structure Iv where
  lo : Int
  hi : Int
  no : Bool
@[reducible] def ivV (a : Iv) : Value := .agg #[.int .i64 a.lo, .int .i64 a.hi, .bool a.no]
def ivRight (a : Iv) : Bool := !a.no && (isIn a.lo && (isIn a.hi && decide (a.lo ≤ a.hi)))
def ivNone : Iv := ⟨0, 0, true⟩
def ivOf (lo hi : Int) : Iv := if ivRight ⟨lo, hi, false⟩ then ⟨lo, hi, false⟩ else ivNone
def ivPoint (n : Int) : Iv := ivOf n n
def ivWhole (n : Int) : Iv := if isIn n then ivPoint (n * 65536) else ivNone
def ivBoth (a b : Iv) : Bool := ivRight a && ivRight b
def ivAdd (a b : Iv) : Iv := if ivBoth a b then ivOf (a.lo + b.lo) (a.hi + b.hi) else ivNone
def ivNeg (a : Iv) : Iv := if ivRight a then ivOf (-a.hi) (-a.lo) else ivNone
def ivSub (a b : Iv) : Iv := ivAdd a (ivNeg b)
def ivOut (lo hi : Int) : Iv := ivOf (lo.fdiv 65536) (-((-hi).fdiv 65536))
@[reducible] def min4 (p q r s : Int) : Int := min p (min q (min r s))
@[reducible] def max4 (p q r s : Int) : Int := max p (max q (max r s))
def ivMul (a b : Iv) : Iv := if ivBoth a b then ivOut (min4 (a.lo * b.lo) (a.lo * b.hi) (a.hi * b.lo) (a.hi * b.hi)) (max4 (a.lo * b.lo) (a.lo * b.hi) (a.hi * b.lo) (a.hi * b.hi)) else ivNone
def ivTimes (a : Iv) (k : Int) : Iv := if ivRight a && isIn k then ivOf (min (k * a.lo) (k * a.hi)) (max (k * a.lo) (k * a.hi)) else ivNone
def ivHas (a : Iv) (n : Int) : Bool := ivRight a && (decide (a.lo ≤ n) && decide (n ≤ a.hi))
def ivSqr (a : Iv) : Iv :=
  if ivRight a then (if ivHas a 0 then ivOut 0 (max (a.lo * a.lo) (a.hi * a.hi)) else ivOut (min (a.lo * a.lo) (a.hi * a.hi)) (max (a.lo * a.lo) (a.hi * a.hi))) else ivNone
/-- Of four pairs of ends: the least of what is rounded down, to the greatest of what is rounded up; None, if one of them is none. -/
def ivEnds (d u : Int → Int → Int × Bool) (a b : Iv) : Iv :=
  if ((d a.lo b.lo).2 && (u a.lo b.lo).2) && (((d a.lo b.hi).2 && (u a.lo b.hi).2) && (((d a.hi b.lo).2 && (u a.hi b.lo).2) && ((d a.hi b.hi).2 && (u a.hi b.hi).2))) then
    ivOf (min4 (d a.lo b.lo).1 (d a.lo b.hi).1 (d a.hi b.lo).1 (d a.hi b.hi).1) (max4 (u a.lo b.lo).1 (u a.lo b.hi).1 (u a.hi b.lo).1 (u a.hi b.hi).1)
  else ivNone
def ivDiv (a b : Iv) : Iv := if ivBoth a b && !ivHas b 0 then ivEnds (fun x y => divN x y false) (fun x y => divN x y true) a b else ivNone
def ivRoot (a : Iv) : Iv := if ivRight a && ((rootN a.lo false).2 && (rootN a.hi true).2) then ivOf (rootN a.lo false).1 (rootN a.hi true).1 else ivNone
def ivMeet (a b : Iv) : Iv := if ivBoth a b then ivOf (max a.lo b.lo) (min a.hi b.hi) else ivNone
def ivMid (a : Iv) : Int := if ivRight a then (a.lo + a.hi).fdiv 2 else 0
def ivSplit (a : Iv) : Iv × Iv := if ivRight a then (ivOf a.lo (ivMid a), ivOf (ivMid a) a.hi) else (ivNone, ivNone)

theorem right_iff {a : Iv} : ivRight a = true ↔ a.no = false ∧ (-1073741824 ≤ a.lo ∧ a.lo ≤ 1073741824) ∧ (-1073741824 ≤ a.hi ∧ a.hi ≤ 1073741824) ∧ a.lo ≤ a.hi := by
  simp [ivRight, isIn_iff]
theorem right_bd {a : Iv} (h : ivRight a = true) : (-1073741824 ≤ a.lo ∧ a.lo ≤ 1073741824) ∧ (-1073741824 ≤ a.hi ∧ a.hi ≤ 1073741824) ∧ a.lo ≤ a.hi := (right_iff.1 h).2
theorem both_iff {a b : Iv} : ivBoth a b = true ↔ ivRight a = true ∧ ivRight b = true := by simp [ivBoth]
theorem both_bd {a b : Iv} (h : ivBoth a b = true) : ((-1073741824 ≤ a.lo ∧ a.lo ≤ 1073741824) ∧ (-1073741824 ≤ a.hi ∧ a.hi ≤ 1073741824) ∧ a.lo ≤ a.hi) ∧ ((-1073741824 ≤ b.lo ∧ b.lo ≤ 1073741824) ∧ (-1073741824 ≤ b.hi ∧ b.hi ≤ 1073741824) ∧ b.lo ≤ b.hi) :=
  ⟨right_bd (both_iff.1 h).1, right_bd (both_iff.1 h).2⟩
theorem right_of {lo hi : Int} : ivRight ⟨lo, hi, false⟩ = true ↔ (-1073741824 ≤ lo ∧ lo ≤ 1073741824) ∧ (-1073741824 ≤ hi ∧ hi ≤ 1073741824) ∧ lo ≤ hi := by
  rw [right_iff]; simp
theorem of_yes {lo hi : Int} (h : (-1073741824 ≤ lo ∧ lo ≤ 1073741824) ∧ (-1073741824 ≤ hi ∧ hi ≤ 1073741824) ∧ lo ≤ hi) : ivOf lo hi = ⟨lo, hi, false⟩ := by
  unfold ivOf; rw [if_pos (right_of.2 h)]
theorem right_none : ivRight ivNone = false := rfl
theorem prod_in {a b : Iv} (h : ivBoth a b = true) : ∀ x y, (x = a.lo ∨ x = a.hi) → (y = b.lo ∨ y = b.hi) → -1152921504606846976 ≤ x * y ∧ x * y ≤ 1152921504606846976 := by
  have hb := both_bd h
  intro x y hx hy
  exact mul_bd (A := 1073741824) (B := 1073741824) (by omega) (by omega)
theorem told_bd (n : Int) : -1073741824 ≤ (told n).1 ∧ (told n).1 ≤ 1073741824 := by
  unfold told
  split
  · rename_i h; exact isIn_iff.1 h
  · exact ⟨by decide, by decide⟩
theorem divN_bd (a b : Int) (up : Bool) : -1073741824 ≤ (divN a b up).1 ∧ (divN a b up).1 ≤ 1073741824 := by
  unfold divN
  split
  · exact told_bd _
  · exact ⟨by decide, by decide⟩
theorem min_div (p q r x y : Int) (up : Bool) : min 1073741824 (min p (min q (min r (divN x y up).1))) = min p (min q (min r (divN x y up).1)) := by
  have := divN_bd x y up
  omega
theorem max_div (p q r x y : Int) (up : Bool) : max (-1073741824) (max p (max q (max r (divN x y up).1))) = max p (max q (max r (divN x y up).1)) := by
  have := divN_bd x y up
  omega

theorem sub_eq (a b : Iv) : ivSub a b = if ivBoth a b then ivOf (a.lo - b.hi) (a.hi - b.lo) else ivNone := by
  unfold ivSub ivAdd
  by_cases hb : ivRight b = true
  · have h := right_bd hb
    have e : ivNeg b = ⟨-b.hi, -b.lo, false⟩ := by
      unfold ivNeg; rw [if_pos hb, of_yes (by omega)]
    have e2 : ivBoth a (ivNeg b) = ivBoth a b := by
      unfold ivBoth; rw [e, hb, right_of.2 (by omega)]
    rw [e2, e]
    split
    · show ivOf (a.lo + -b.hi) (a.hi + -b.lo) = _
      rw [← Int.sub_eq_add_neg, ← Int.sub_eq_add_neg]
    · rfl
  · have e : ivNeg b = ivNone := by unfold ivNeg; rw [if_neg hb]
    have e2 : ivBoth a (ivNeg b) = false := by unfold ivBoth; rw [e, right_none]; simp
    have e3 : ivBoth a b = false := by
      cases h : ivBoth a b
      · rfl
      · exact absurd (both_iff.1 h).2 hb
    rw [e2, e3]
    rfl
end Go.Proofs.Ytggohceeeggnmaa

namespace Go.Proofs.Ytggohceeeggnmaa
set_option linter.unusedVariables false

theorem fdiv_one (n : Int) : n.fdiv 65536 = n / 65536 := Int.fdiv_eq_ediv_of_nonneg _ (by omega)
end Go.Proofs.Ytggohceeeggnmaa

namespace Go.Proofs.Ytggohceeeggnmaa
set_option linter.unusedVariables false

theorem both_comm (a b : Iv) : ivBoth a b = ivBoth b a := by unfold ivBoth; rw [Bool.and_comm]
theorem mul_comm' (a b : Iv) : ivMul a b = ivMul b a := by
  unfold ivMul
  rw [both_comm, Int.mul_comm b.lo a.lo, Int.mul_comm b.lo a.hi, Int.mul_comm b.hi a.lo, Int.mul_comm b.hi a.hi]
  have e1 : min4 (a.lo * b.lo) (a.lo * b.hi) (a.hi * b.lo) (a.hi * b.hi) = min4 (a.lo * b.lo) (a.hi * b.lo) (a.lo * b.hi) (a.hi * b.hi) := by unfold min4; omega
  have e2 : max4 (a.lo * b.lo) (a.lo * b.hi) (a.hi * b.lo) (a.hi * b.hi) = max4 (a.lo * b.lo) (a.hi * b.lo) (a.lo * b.hi) (a.hi * b.hi) := by unfold max4; omega
  rw [e1, e2]
end Go.Proofs.Ytggohceeeggnmaa

namespace Go.Proofs.Ytggohceeeggnmaa
set_option linter.unusedVariables false

/-! About 0. -/
/-! Times nothing, times one. -/
theorem fdiv_steps (n : Int) : (n * 65536).fdiv 65536 = n := by rw [fdiv_one]; omega
theorem mul_zero {a : Iv} (h : ivRight a = true) : ivMul a ⟨0, 0, false⟩ = ⟨0, 0, false⟩ := by
  unfold ivMul
  rw [if_pos (both_iff.2 ⟨h, by decide⟩)]
  simp only [Int.mul_zero]
  rfl
theorem right_eta {a : Iv} (h : ivRight a = true) : (⟨a.lo, a.hi, false⟩ : Iv) = a := by
  have e := (right_iff.1 h).1
  obtain ⟨lo, hi, no⟩ := a
  dsimp only at e ⊢
  rw [e]
theorem mul_one {a : Iv} (h : ivRight a = true) : ivMul a ⟨65536, 65536, false⟩ = a := by
  have b := right_bd h
  unfold ivMul ivOut
  rw [if_pos (both_iff.2 ⟨h, by decide⟩)]
  dsimp only
  rw [show min4 (a.lo * 65536) (a.lo * 65536) (a.hi * 65536) (a.hi * 65536) = a.lo * 65536 by unfold min4; omega,
    show max4 (a.lo * 65536) (a.lo * 65536) (a.hi * 65536) (a.hi * 65536) = a.hi * 65536 by unfold max4; omega,
    ← Int.neg_mul, fdiv_steps, fdiv_steps, Int.neg_neg, of_yes (by omega), right_eta h]
theorem add_zero {a : Iv} (h : ivRight a = true) : ivAdd a ⟨0, 0, false⟩ = a := by
  have b := right_bd h
  unfold ivAdd
  rw [if_pos (both_iff.2 ⟨h, by decide⟩), of_yes (by dsimp only; omega), Int.add_zero, Int.add_zero, right_eta h]

/-! Squares, where they are. -/
/-! Roots, where they are. -/
end Go.Proofs.Ytggohceeeggnmaa

namespace Go.Proofs.Ytggohceeeggnmaa
set_option linter.unusedVariables false

def triLess (a b : Iv) : Int := if ivBoth a b then (if a.hi < b.lo then 1 else if b.hi ≤ a.lo then 2 else 0) else 0
def triNA (a b : Iv) : Int := if ivBoth a b then (if a.hi ≤ b.lo then 1 else if b.hi < a.lo then 2 else 0) else 0
def triNot (n : Int) : Int := if n = 1 then 2 else if n = 2 then 1 else 0
theorem triNA_cases (a b : Iv) : (triNA a b = 1 ∧ ivBoth a b = true ∧ a.hi ≤ b.lo) ∨ (triNA a b = 2 ∧ ivBoth a b = true ∧ b.hi < a.lo) ∨ triNA a b = 0 := by
  unfold triNA
  cases ivBoth a b
  · simp
  · by_cases h : a.hi ≤ b.lo
    · simp [h]
    · by_cases h' : b.hi < a.lo <;> simp [h, h']
theorem triNA_yes {a b : Iv} (h : ivBoth a b = true) (k : a.hi ≤ b.lo) : triNA a b = 1 := by unfold triNA; simp [h, k]
/-- Less of a and b is the opposite of 'not above' of b and a. -/
theorem less_not (a b : Iv) : triNot (triNA b a) = triLess a b := by
  unfold triNot triNA triLess
  rw [both_comm b a]
  cases h : ivBoth a b
  · simp
  · have r := both_bd h
    simp only [if_true]
    by_cases h1 : b.hi ≤ a.lo
    · have : ¬ a.hi < b.lo := by omega
      simp [h1, this]
    · by_cases h2 : a.hi < b.lo <;> simp [h1, h2]
theorem na_not (a b : Iv) : triNot (triLess b a) = triNA a b := by
  rw [← less_not b a]
  unfold triNot
  have h := triNA_cases a b
  rcases h with ⟨t, -⟩ | ⟨t, -⟩ | t <;> simp [t]
end Go.Proofs.Ytggohceeeggnmaa

namespace Go.Proofs.Ytggohceeeggnmaa
set_option linter.unusedVariables false

def qDet (a b c : Iv) : Iv := ivSub (ivSqr b) (ivMul a c)
def qRoot (a b c : Iv) : Iv := ivDiv c (ivSub (ivRoot (qDet a b c)) b)
def qIs (a b c : Iv) : Int := if triNA ⟨0, 0, false⟩ (qDet a b c) = 1 then (if ivRight (qRoot a b c) then 1 else 0) else triNA ⟨0, 0, false⟩ (qDet a b c)
def qNear (a b c : Iv) : Iv := if qIs a b c = 1 then qRoot a b c else ivNone

theorem quad_cases (a b c : Iv) : (qIs a b c = 1 ∧ qNear a b c = qRoot a b c ∧ ivRight (qRoot a b c) = true ∧ ivRight (qDet a b c) = true ∧ 0 ≤ (qDet a b c).lo) ∨
    (qIs a b c = 2 ∧ qNear a b c = ivNone ∧ ivRight (qDet a b c) = true ∧ (qDet a b c).hi < 0) ∨ (qIs a b c = 0 ∧ qNear a b c = ivNone) := by
  unfold qNear
  rcases triNA_cases ⟨0, 0, false⟩ (qDet a b c) with ⟨e, hb, h⟩ | ⟨e, hb, h⟩ | e
  · cases hr : ivRight (qRoot a b c)
    · have hq : qIs a b c = 0 := by unfold qIs; rw [if_pos e, hr]; rfl
      rw [hq]
      exact .inr (.inr ⟨rfl, rfl⟩)
    · have hq : qIs a b c = 1 := by unfold qIs; rw [if_pos e, hr]; rfl
      rw [hq]
      exact .inl ⟨rfl, rfl, rfl, (both_iff.1 hb).2, h⟩
  · have hq : qIs a b c = 2 := by unfold qIs; rw [e]; rfl
    rw [hq]
    exact .inr (.inl ⟨rfl, rfl, (both_iff.1 hb).2, h⟩)
  · have hq : qIs a b c = 0 := by unfold qIs; rw [e]; rfl
    rw [hq]
    exact .inr (.inr ⟨rfl, rfl⟩)
theorem zero_both {d : Iv} (h : ivRight d = true) : ivBoth ⟨0, 0, false⟩ d = true := both_iff.2 ⟨by decide, h⟩
theorem quad_yes {a b c : Iv} (h : ivRight (qRoot a b c) = true) (k : ivRight (qDet a b c) = true) (l : 0 ≤ (qDet a b c).lo) : qIs a b c = 1 ∧ qNear a b c = qRoot a b c := by
  have hq : qIs a b c = 1 := by unfold qIs; rw [if_pos (triNA_yes (zero_both k) l), h]; rfl
  refine ⟨hq, ?_⟩
  unfold qNear
  rw [if_pos hq]
/-! Less in less. -/
/-! What lies in what: numbers that are fractions, too: P / Q. -/
/-! Roots that are whole. -/
end Go.Proofs.Ytggohceeeggnmaa
