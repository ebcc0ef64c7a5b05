/-
  Intervals of steps, in plain numbers: of less each call tells less.
-/
import Derived.Test.YtgkkfmjlgmoefaaIvMath2
namespace Go.Proofs.Ytgkkfmjlgmoefaa
set_option linter.unusedVariables false

/-- The answer of less lies in the answer of more, if that is one. -/
def ivLess (a b : Iv) : Bool := !ivRight b || ivInside a b
theorem inside_iff {a b : Iv} : ivInside a b = true ↔ ivRight a = true ∧ ivRight b = true ∧ b.lo ≤ a.lo ∧ a.hi ≤ b.hi := by
  simp [ivInside, ivBoth, and_assoc]
theorem less_of {lo hi lo' hi' : Int} (h : (-1073741824 ≤ lo ∧ lo ≤ 1073741824) ∧ (-1073741824 ≤ hi ∧ hi ≤ 1073741824) ∧ lo ≤ hi → lo ≤ lo' ∧ lo' ≤ hi' ∧ hi' ≤ hi) : ivLess (ivOf lo' hi') (ivOf lo hi) = true := by
  unfold ivLess
  rcases of_cases lo hi with ⟨e, h1⟩ | ⟨e, h1⟩
  · have h2 := h h1
    rw [e, of_yes (lo := lo') (hi := hi') (by omega)]
    have : ivInside ⟨lo', hi', false⟩ ⟨lo, hi, false⟩ = true := inside_iff.2 ⟨right_of.2 (by omega), right_of.2 (by omega), h2.1, h2.2.2⟩
    rw [this]
    simp
  · rw [e, right_none]
    rfl
/-- p is less of x. -/
def Part (p x : Iv) : Prop := ivRight p = true ∧ ivRight x = true ∧ x.lo ≤ p.lo ∧ p.hi ≤ x.hi
theorem hIn_part {a : Iv} (x y : Int) (h : ivRight a = true) : Part (hIn a x y) a :=
  ⟨(hIn_right x y h).1, h, (hIn_right x y h).2.1, (hIn_right x y h).2.2.1⟩
theorem part_bd {p x : Iv} (h : Part p x) : ((-1073741824 ≤ p.lo ∧ p.lo ≤ 1073741824) ∧ (-1073741824 ≤ p.hi ∧ p.hi ≤ 1073741824) ∧ p.lo ≤ p.hi) ∧ ((-1073741824 ≤ x.lo ∧ x.lo ≤ 1073741824) ∧ (-1073741824 ≤ x.hi ∧ x.hi ≤ 1073741824) ∧ x.lo ≤ x.hi) ∧ x.lo ≤ p.lo ∧ p.hi ≤ x.hi :=
  ⟨right_bd h.1, right_bd h.2.1, h.2.2⟩
theorem part_both {p q x y : Iv} (h : Part p x) (k : Part q y) : ivBoth p q = true ∧ ivBoth x y = true := ⟨both_iff.2 ⟨h.1, k.1⟩, both_iff.2 ⟨h.2.1, k.2.1⟩⟩
theorem less_add {p q x y : Iv} (h : Part p x) (k : Part q y) : ivLess (ivAdd p q) (ivAdd x y) = true := by
  have b := part_bd h
  have c := part_bd k
  unfold ivAdd
  rw [if_pos (part_both h k).1, if_pos (part_both h k).2]
  exact less_of (by omega)
theorem less_neg {p x : Iv} (h : Part p x) : ivLess (ivNeg p) (ivNeg x) = true := by
  have b := part_bd h
  unfold ivNeg
  rw [if_pos h.1, if_pos h.2.1]
  exact less_of (by omega)
theorem less_sub {p q x y : Iv} (h : Part p x) (k : Part q y) : ivLess (ivSub p q) (ivSub x y) = true := by
  have b := part_bd h
  have c := part_bd k
  rw [sub_eq, sub_eq, if_pos (part_both h k).1, if_pos (part_both h k).2]
  exact less_of (by omega)
theorem less_hull {p q x y : Iv} (h : Part p x) (k : Part q y) : ivLess (ivHull p q) (ivHull x y) = true := by
  have b := part_bd h
  have c := part_bd k
  unfold ivHull
  rw [if_pos (part_both h k).1, if_pos (part_both h k).2]
  exact less_of (by omega)
/-- A product lies between those of the ends. -/
theorem mul_between {l u h : Int} (v : Int) (h1 : l ≤ u) (h2 : u ≤ h) : min (l * v) (h * v) ≤ u * v ∧ u * v ≤ max (l * v) (h * v) := by
  by_cases hv : 0 ≤ v
  · have := Int.mul_le_mul_of_nonneg_right h1 hv
    have := Int.mul_le_mul_of_nonneg_right h2 hv
    omega
  · have := Int.mul_le_mul_of_nonpos_right h1 (show v ≤ 0 by omega)
    have := Int.mul_le_mul_of_nonpos_right h2 (show v ≤ 0 by omega)
    omega
theorem mul_between2 {l h u l2 h2 v : Int} (a : l ≤ u) (b : u ≤ h) (c : l2 ≤ v) (d : v ≤ h2) :
    min4 (l * l2) (l * h2) (h * l2) (h * h2) ≤ u * v ∧ u * v ≤ max4 (l * l2) (l * h2) (h * l2) (h * h2) := by
  have e1 := mul_between v a b
  have e2 := mul_between l c d
  have e3 := mul_between h c d
  rw [Int.mul_comm l2 l, Int.mul_comm h2 l, Int.mul_comm v l] at e2
  rw [Int.mul_comm l2 h, Int.mul_comm h2 h, Int.mul_comm v h] at e3
  unfold min4 max4
  omega
theorem less_out {lo hi lo' hi' : Int} (h : lo ≤ lo' ∧ lo' ≤ hi' ∧ hi' ≤ hi) : ivLess (ivOut lo' hi') (ivOut lo hi) = true := by
  unfold ivOut
  rw [fdiv_one, fdiv_one, fdiv_one, fdiv_one]
  exact less_of (by omega)
theorem less_mul {p q x y : Iv} (h : Part p x) (k : Part q y) : ivLess (ivMul p q) (ivMul x y) = true := by
  have b := part_bd h
  have c := part_bd k
  unfold ivMul
  rw [if_pos (part_both h k).1, if_pos (part_both h k).2]
  have m1 := mul_between2 (l := x.lo) (h := x.hi) (u := p.lo) (l2 := y.lo) (h2 := y.hi) (v := q.lo) (by omega) (by omega) (by omega) (by omega)
  have m2 := mul_between2 (l := x.lo) (h := x.hi) (u := p.lo) (l2 := y.lo) (h2 := y.hi) (v := q.hi) (by omega) (by omega) (by omega) (by omega)
  have m3 := mul_between2 (l := x.lo) (h := x.hi) (u := p.hi) (l2 := y.lo) (h2 := y.hi) (v := q.lo) (by omega) (by omega) (by omega) (by omega)
  have m4 := mul_between2 (l := x.lo) (h := x.hi) (u := p.hi) (l2 := y.lo) (h2 := y.hi) (v := q.hi) (by omega) (by omega) (by omega) (by omega)
  refine less_out ?_
  generalize min4 (x.lo * y.lo) (x.lo * y.hi) (x.hi * y.lo) (x.hi * y.hi) = M at *
  generalize max4 (x.lo * y.lo) (x.lo * y.hi) (x.hi * y.lo) (x.hi * y.hi) = N at *
  unfold min4 max4
  omega
theorem less_times {p x : Iv} (k : Int) (h : Part p x) : ivLess (ivTimes p k) (ivTimes x k) = true := by
  have b := part_bd h
  unfold ivTimes
  rw [h.1, h.2.1]
  cases hk : isIn k
  · rfl
  · have m1 := mul_between (l := x.lo) (h := x.hi) (u := p.lo) k (by omega) (by omega)
    have m2 := mul_between (l := x.lo) (h := x.hi) (u := p.hi) k (by omega) (by omega)
    rw [Int.mul_comm x.lo k, Int.mul_comm x.hi k, Int.mul_comm p.lo k] at m1
    rw [Int.mul_comm x.lo k, Int.mul_comm x.hi k, Int.mul_comm p.hi k] at m2
    exact less_of (by omega)
theorem sq_between {l u h : Int} (a : l ≤ u) (b : u ≤ h) : u * u ≤ max (l * l) (h * h) ∧ (¬ (l ≤ 0 ∧ 0 ≤ h) → min (l * l) (h * h) ≤ u * u) ∧ 0 ≤ u * u := by
  have n : 0 ≤ u * u := by rw [← abs_sq]; exact Int.mul_nonneg (by omega) (by omega)
  by_cases hu : 0 ≤ u
  · have h1 := sq_le hu b
    by_cases hl : 0 ≤ l
    · have h2 := sq_le hl a
      omega
    · omega
  · have e1 : u * u = (-u) * (-u) := (Int.neg_mul_neg u u).symm
    have e2 : l * l = (-l) * (-l) := (Int.neg_mul_neg l l).symm
    have e3 : h * h = (-h) * (-h) := (Int.neg_mul_neg h h).symm
    have h1 := sq_le (x := -u) (y := -l) (by omega) (by omega)
    rw [← e1, ← e2] at h1
    by_cases hh : h ≤ 0
    · have h2 := sq_le (x := -h) (y := -u) (by omega) (by omega)
      rw [← e1, ← e3] at h2
      omega
    · omega
theorem has_zero {a : Iv} (h : ivRight a = true) : ivHas a 0 = decide (a.lo ≤ 0 ∧ 0 ≤ a.hi) := by
  unfold ivHas
  rw [h]
  simp
theorem less_sqr {p x : Iv} (h : Part p x) : ivLess (ivSqr p) (ivSqr x) = true := by
  have b := part_bd h
  unfold ivSqr
  rw [if_pos h.1, if_pos h.2.1, has_zero h.1, has_zero h.2.1]
  have s1 := sq_between (l := x.lo) (u := p.lo) (h := x.hi) (by omega) (by omega)
  have s2 := sq_between (l := x.lo) (u := p.hi) (h := x.hi) (by omega) (by omega)
  by_cases h1 : x.lo ≤ 0 ∧ 0 ≤ x.hi
  · rw [if_pos (c := decide (x.lo ≤ 0 ∧ 0 ≤ x.hi) = true) (by simpa using h1)]
    split
    · exact less_out (by omega)
    · exact less_out (by omega)
  · rw [if_neg (c := decide (x.lo ≤ 0 ∧ 0 ≤ x.hi) = true) (by simpa using h1), if_neg (by simp; omega)]
    have t1 := s1.2.1 h1
    have t2 := s2.2.1 h1
    exact less_out (by omega)
theorem flRoot_mono {n m : Int} (h0 : 0 ≤ n) (h : n ≤ m) (h1 : m < 281474976710656) : flRoot n ≤ flRoot m := by
  have ⟨a, b, c⟩ := flRoot_bd n h0 (by omega)
  have ⟨d, e, f⟩ := flRoot_bd m (by omega) h1
  exact flRoot_le n (flRoot m) h0 (by omega) d (by omega)
theorem upRoot_mono {n m : Int} (h0 : 0 ≤ n) (h : n ≤ m) (h1 : m < 281474976710656) : upRoot n true ≤ upRoot m true := by
  have ⟨a, b, c⟩ := flRoot_bd n h0 (by omega)
  have ⟨d, e, f⟩ := flRoot_bd m (by omega) h1
  have g := flRoot_mono h0 h h1
  unfold upRoot
  by_cases hn : flRoot n * flRoot n = n <;> by_cases hm : flRoot m * flRoot m = m
  · simp [hn, hm]; exact g
  · simp [hn, hm]; omega
  · have : flRoot n < flRoot m := by
      by_cases h2 : flRoot n < flRoot m
      · exact h2
      · have h3 : flRoot n = flRoot m := by omega
        rw [h3] at hn b
        omega
    simp [hn, hm]
    omega
  · simp [hn, hm]; omega
theorem up_ge (n : Int) : flRoot n ≤ upRoot n true ∧ upRoot n true ≤ flRoot n + 1 ∧ upRoot n false = flRoot n := by
  unfold upRoot
  refine ⟨?_, ?_, by simp⟩
  · split <;> omega
  · split <;> omega
theorem less_root {p x : Iv} (h : Part p x) : ivLess (ivRoot p) (ivRoot x) = true := by
  have b := part_bd h
  rw [root_eq, root_eq, h.1, h.2.1]
  by_cases h0 : x.lo < 0
  · simp only [h0]
    simp [ivLess, right_none]
  · have h1 : ¬ p.lo < 0 := by omega
    simp only [h0, h1]
    rw [(rootN_yes (n := x.lo) (by omega) false).1, (rootN_yes (n := x.hi) (by omega) true).1, (rootN_yes (n := p.lo) (by omega) false).1, (rootN_yes (n := p.hi) (by omega) true).1]
    have r1 := flRoot_mono (n := x.lo * 65536) (m := p.lo * 65536) (by omega) (by omega) (by omega)
    have r2 := upRoot_mono (n := p.hi * 65536) (m := x.hi * 65536) (by omega) (by omega) (by omega)
    have r3 := flRoot_mono (n := p.lo * 65536) (m := p.hi * 65536) (by omega) (by omega) (by omega)
    have u1 := up_ge (x.lo * 65536)
    have u2 := up_ge (p.lo * 65536)
    have u3 := up_ge (p.hi * 65536)
    exact less_of (by simp only; omega)

end Go.Proofs.Ytgkkfmjlgmoefaa

