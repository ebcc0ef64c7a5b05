/-
  Plain numbers: what the steps of chapter 1 come to. Nothing of the program stands here.
-/
import Derived.WalkKit
namespace Go.Proofs.YthhipepdkpoomaaDoor
set_option linter.unusedVariables false

theorem fdiv_of (a b : Int) (hb : b ≠ 0) : a.fdiv b = if (a.tmod b ≠ 0 ∧ ¬ ((a < 0) ↔ (b < 0))) then a.tdiv b - 1 else a.tdiv b := by
  rw [Int.fdiv_eq_tdiv]
  have hd : b ∣ a ↔ a.tmod b = 0 := Int.dvd_iff_tmod_eq_zero
  generalize a.tmod b = m at *
  generalize a.tdiv b = q at *
  by_cases h1 : m = 0
  · have : b ∣ a := hd.2 h1
    simp [this, h1]
  · have : ¬ b ∣ a := fun h => h1 (hd.1 h)
    rw [if_neg this]
    by_cases h3 : 0 ≤ b
    · have h4 : b.sign = 1 := Int.sign_eq_one_of_pos (by omega)
      by_cases h2 : 0 ≤ a
      · rw [if_pos h2, if_pos h3, if_neg (by omega)]; omega
      · rw [if_neg h2, if_pos h3, if_pos (by omega)]; omega
    · have h4 : b.sign = -1 := Int.sign_eq_neg_one_of_neg (by omega)
      by_cases h2 : 0 ≤ a
      · rw [if_pos h2, if_neg h3, if_pos (by omega)]
      · rw [if_neg h2, if_neg h3, if_neg (by omega)]; omega

theorem tdiv_bd (a b : Int) (ha : -9223372036854775808 ≤ a) (ha' : a ≤ 9223372036854775807) (h : ¬ (a = -9223372036854775808 ∧ b = -1)) : -9223372036854775808 ≤ a.tdiv b ∧ a.tdiv b ≤ 9223372036854775807 := by
  by_cases h1 : b = 1
  · subst h1; simp; omega
  · by_cases h2 : b = -1
    · subst h2; simp; omega
    · by_cases h3 : b = 0
      · subst h3; simp
      · have h4 : (a.tdiv b).natAbs ≤ a.natAbs / 2 := by
          rw [Int.natAbs_tdiv]; exact Nat.div_le_div_left (by omega) (by omega)
        omega

theorem tdiv_bd2 (a b : Int) (ha : -9223372036854775808 ≤ a) (ha' : a ≤ 9223372036854775807) (h : ¬ a.tmod b = 0) : -4611686018427387904 ≤ a.tdiv b ∧ a.tdiv b ≤ 4611686018427387904 := by
  by_cases h1 : b = 1
  · subst h1; simp at h
  · by_cases h2 : b = -1
    · subst h2; simp at h
    · by_cases h3 : b = 0
      · subst h3; simp
      · have h4 : (a.tdiv b).natAbs ≤ a.natAbs / 2 := by
          rw [Int.natAbs_tdiv]; exact Nat.div_le_div_left (by omega) (by omega)
        omega

theorem fdiv_abs (a b : Int) : (a.fdiv b).natAbs ≤ a.natAbs := by
  by_cases hb : b = 0
  · subst hb; simp
  · have h1 : (a.tdiv b).natAbs ≤ a.natAbs := by rw [Int.natAbs_tdiv]; exact Nat.div_le_self _ _
    rw [fdiv_of a b hb]
    split
    · rename_i h
      have h2 : 2 ≤ b.natAbs := by
        have : b ≠ 1 := by intro e; subst e; simp at h
        have : b ≠ -1 := by intro e; subst e; simp at h
        omega
      have h3 : a ≠ 0 := by intro e; subst e; simp at h
      have h4 : (a.tdiv b).natAbs ≤ a.natAbs / 2 := by
        rw [Int.natAbs_tdiv]; exact Nat.div_le_div_left h2 (by omega)
      omega
    · exact h1

/-- Is n a number of steps? -/
def isIn (n : Int) : Bool := decide (-1073741824 ≤ n) && decide (n ≤ 1073741824)
theorem isIn_iff {n : Int} : isIn n = true ↔ -1073741824 ≤ n ∧ n ≤ 1073741824 := by simp [isIn]
def told (n : Int) : Int × Bool := if isIn n then (n, true) else (0, false)
def quo (a b : Int) (up : Bool) : Int := if up then -((-a).fdiv b) else a.fdiv b
theorem quo_up (a b : Int) : quo a b true = -((-a).fdiv b) := rfl
theorem quo_dn (a b : Int) : quo a b false = a.fdiv b := rfl
def mulN (a b : Int) (up : Bool) : Int × Bool := if isIn a && isIn b then told (quo (a * b) 65536 up) else (0, false)
def divN (a b : Int) (up : Bool) : Int × Bool := if isIn a && isIn b && !(b == 0) then told (quo (a * 65536) b up) else (0, false)
/-- The root of n, bit by bit, the highest first: k bits are left. -/
def rootGo (n : Int) : Nat → Int → Int
  | 0, r => r
  | k + 1, r => rootGo n k (if (r + 2 ^ k) * (r + 2 ^ k) ≤ n then r + 2 ^ k else r)
def flRoot (n : Int) : Int := rootGo n 24 0
def upRoot (n : Int) (up : Bool) : Int := if up && !(flRoot n * flRoot n == n) then flRoot n + 1 else flRoot n
def rootN (a : Int) (up : Bool) : Int × Bool := if isIn a && !decide (a < 0) then told (upRoot (a * 65536) up) else (0, false)

theorem mul_bd {a b : Int} {A B : Int} (ha : -A ≤ a ∧ a ≤ A) (hb : -B ≤ b ∧ b ≤ B) : -(A * B) ≤ a * b ∧ a * b ≤ A * B := by
  have h0 : 0 ≤ A := by omega
  have h1 : (a * b).natAbs ≤ A.natAbs * B.natAbs := by rw [Int.natAbs_mul]; exact Nat.mul_le_mul (by omega) (by omega)
  have h2 : ((A.natAbs * B.natAbs : Nat) : Int) = A * B := by rw [Int.natCast_mul, Int.natAbs_of_nonneg h0, Int.natAbs_of_nonneg (by omega)]
  omega
theorem in_mul {a b : Int} (ha : isIn a = true) (hb : isIn b = true) : -1152921504606846976 ≤ a * b ∧ a * b ≤ 1152921504606846976 :=
  mul_bd (A := 1073741824) (B := 1073741824) (isIn_iff.1 ha) (isIn_iff.1 hb)

/-- The value of the bit ahead of which k bits are left. -/
def bitv : Nat → Int
  | 0 => 0
  | k + 1 => 2 ^ k
theorem bitv_half (k : Nat) : bitv (k + 1) / 2 = bitv k := by
  cases k with
  | zero => rfl
  | succ k => show (2 : Int) ^ (k + 1) / 2 = 2 ^ k; rw [Int.pow_succ]; omega
theorem bitv_pos (k : Nat) : 0 < bitv (k + 1) := Int.pow_pos (by omega)
theorem bitv_le (k : Nat) (h : k < 24) : bitv (k + 1) ≤ 8388608 := by
  have h1 : 2 ^ k ≤ 2 ^ 23 := Nat.pow_le_pow_right (n := 2) (by omega) (by omega)
  have h2 : ((2 ^ k : Nat) : Int) = 2 ^ k := by rw [Int.natCast_pow]; rfl
  show (2 : Int) ^ k ≤ 8388608
  omega
theorem rootGo_succ (n : Int) (k : Nat) (r : Int) : rootGo n (k + 1) r = rootGo n k (if (r + bitv (k + 1)) * (r + bitv (k + 1)) ≤ n then r + bitv (k + 1) else r) := rfl

theorem rootGo_bd (n : Int) : ∀ (k : Nat) (x : Int), 0 ≤ x → x * x ≤ n → n < (x + 2 ^ k) * (x + 2 ^ k) →
    0 ≤ rootGo n k x ∧ rootGo n k x * rootGo n k x ≤ n ∧ n < (rootGo n k x + 1) * (rootGo n k x + 1) := by
  intro k
  induction k with
  | zero => intro x h0 h1 h2; exact ⟨h0, h1, by simpa [rootGo] using h2⟩
  | succ k ih =>
    intro x h0 h1 h2
    have hp : (0 : Int) < 2 ^ k := Int.pow_pos (by omega)
    show 0 ≤ rootGo n k _ ∧ _
    by_cases hc : (x + 2 ^ k) * (x + 2 ^ k) ≤ n
    · rw [rootGo, if_pos hc]
      refine ih _ (by omega) hc ?_
      rw [Int.pow_succ] at h2
      have : x + 2 ^ k + 2 ^ k = x + 2 ^ k * 2 := by omega
      rw [this]; exact h2
    · rw [rootGo, if_neg hc]
      exact ih _ h0 h1 (by omega)
theorem flRoot_bd (n : Int) (h0 : 0 ≤ n) (h1 : n < 281474976710656) : 0 ≤ flRoot n ∧ flRoot n * flRoot n ≤ n ∧ n < (flRoot n + 1) * (flRoot n + 1) :=
  rootGo_bd n 24 0 (by omega) (by simpa using h0) (by simpa using h1)
theorem flRoot_le (n m : Int) (h0 : 0 ≤ n) (h1 : n < 281474976710656) (hm : 0 ≤ m) (hn : n < (m + 1) * (m + 1)) : flRoot n ≤ m := by
  have ⟨a, b, c⟩ := flRoot_bd n h0 h1
  by_cases h : flRoot n ≤ m
  · exact h
  · have := Int.mul_le_mul (show m + 1 ≤ flRoot n by omega) (show m + 1 ≤ flRoot n by omega) (by omega) (by omega)
    omega
theorem in_root {a : Int} (ha : isIn a = true) (h0 : ¬ a < 0) : 0 ≤ flRoot (a * 65536) ∧ flRoot (a * 65536) ≤ 8388608 := by
  have := isIn_iff.1 ha
  exact ⟨(flRoot_bd _ (by omega) (by omega)).1, flRoot_le _ _ (by omega) (by omega) (by omega) (by omega)⟩

/-- The least that is not below a / b. -/
theorem ceil_eq (a b : Int) (hb : b ≠ 0) : -((-a).fdiv b) = if a.fdiv b * b = a then a.fdiv b else a.fdiv b + 1 := by
  rw [Int.neg_fdiv]
  have h1 := Int.fdiv_mul_add_fmod a b
  have h2 : b ∣ a ↔ a.fmod b = 0 := Int.dvd_iff_fmod_eq_zero
  by_cases h : a.fdiv b * b = a
  · rw [if_pos h, if_pos (.inr (h2.2 (by omega)))]; omega
  · rw [if_neg h, if_neg (by rintro (h3 | h3); exact hb h3; have := h2.1 h3; omega)]; omega
theorem fdiv_mul_bd (a b : Int) (ha : -1152921504606846976 ≤ a ∧ a ≤ 1152921504606846976) (hb : -1152921504606846976 ≤ b ∧ b ≤ 1152921504606846976) :
    -2305843009213693952 ≤ a.fdiv b * b ∧ a.fdiv b * b ≤ 2305843009213693952 := by
  have h1 := Int.fdiv_mul_add_fmod a b
  by_cases h0 : b = 0
  · subst h0; simp
  · have h2 : (a.fmod b).natAbs ≤ b.natAbs := by
      by_cases hp : 0 < b
      · have := Int.fmod_nonneg_of_pos a hp
        have := Int.fmod_lt_of_pos a hp
        omega
      · have h3 : a.fmod b = -((-a).fmod (-b)) := by rw [Int.neg_fmod_neg]; omega
        have := Int.fmod_nonneg_of_pos (-a) (show 0 < -b by omega)
        have := Int.fmod_lt_of_pos (-a) (show 0 < -b by omega)
        omega
    omega

/-- A number of steps, of whatever number. -/
def hnum (n : Int) : Int :=
  if n % 9 = 0 then n else if n % 9 = 1 then (n.tdiv 9 % 201 - 100) * 65536 else if n % 9 = 2 then n.tdiv 9 % 9 - 4 else if n % 9 = 3 then n.tdiv 9 % 2147483657 - 1073741824 - 4 else n.tdiv 9 % 2621440 - 1310720
theorem hnum_bd (n : Int) (hn : -9223372036854775808 ≤ n) (hn' : n ≤ 9223372036854775807) : -9223372036854775808 ≤ hnum n ∧ hnum n ≤ 9223372036854775807 := by
  unfold hnum
  split
  · omega
  · split
    · omega
    · split
      · omega
      · split <;> omega

end Go.Proofs.YthhipepdkpoomaaDoor

