/-
  Decimals in plain words, the fourth part: digits ahead of the point and behind it, read, printed, as an interval.
-/
import Derived.Test.YthnehnabldgagaaDoorDec2
import Derived.Test.YthnehnabldgagaaDoorReadMath
namespace Go.Proofs.YthnehnabldgagaaDoor
set_option linter.unusedVariables false
open Go.RowKit Go.Lib

theorem canon_zero (c s : Nat) : canon (10 * c) (s + 1) = canon c s := by
  conv => lhs; unfold canon
  rw [if_pos (by omega)]
  congr 1
  omega
theorem minus_okA (T : List UInt8) : unsg (45 :: T) = T ∧ isNeg (45 :: T) = true := ⟨rfl, rfl⟩
theorem plain_okA (A T : List UInt8) (hA : A.all isD = true) (lA : 1 ≤ A.length) : unsg (A ++ T) = A ++ T ∧ isNeg (A ++ T) = false := by
  have h : isNeg (A ++ T) = false := by
    cases A with
    | nil => simp at lA
    | cons a r => exact not_minus (l := a :: r) hA
  refine ⟨?_, h⟩
  unfold unsg
  rw [h]
  rfl
/-- Digits, a point, digits. -/
theorem read_pt (A R : List UInt8) (hA : A.all isD = true) (hR : R.all isD = true) (lA : 1 ≤ A.length) (lA' : A.length ≤ 5) (lR : 1 ≤ R.length) (lR' : R.length ≤ 6) (c s : Nat) (e : canon (valL (A ++ R)) R.length = (c, s)) :
    readP (A ++ 46 :: R) = (⟨(c : Int), (s : Int)⟩, true) ∧ (c ≠ 0 → readP (45 :: (A ++ 46 :: R)) = (⟨-(c : Int), (s : Int)⟩, true)) := by
  obtain ⟨g1, g2, g3⟩ := okA_text A R hA hR lA lA' lR lR'
  obtain ⟨p1, p2⟩ := plain_okA A (46 :: R) hA lA
  constructor
  · rw [readP_yes (by rw [p1]; exact g1) c s (by rw [p1, g2, g3]; exact e), p2]
    rfl
  · intro hc
    obtain ⟨m1, m2⟩ := minus_okA (A ++ 46 :: R)
    rw [readP_yes (by rw [m1]; exact g1) c s (by rw [m1, g2, g3]; exact e), m2, if_neg (fun h => hc h.2)]
    rfl
/-- Digits alone. -/
theorem read_pl (A : List UInt8) (hA : A.all isD = true) (lA : 1 ≤ A.length) (lA' : A.length ≤ 5) :
    readP A = (⟨(valL A : Int), 0⟩, true) ∧ (valL A ≠ 0 → readP (45 :: A) = (⟨-(valL A : Int), 0⟩, true)) := by
  obtain ⟨g1, g2, g3⟩ := okA_plain A hA lA lA'
  obtain ⟨p1, p2⟩ := plain_okA A [] hA lA
  rw [List.append_nil] at p1 p2
  constructor
  · rw [readP_yes (by rw [p1]; exact g1) (valL A) 0 (by rw [p1, g2, g3, List.append_nil]; rfl), p2]
    rfl
  · intro hc
    obtain ⟨m1, m2⟩ := minus_okA A
    rw [readP_yes (by rw [m1]; exact g1) (valL A) 0 (by rw [m1, g2, g3, List.append_nil]; rfl), m2, if_neg (fun h => hc h.2)]
    rfl
theorem p10_nat (n : Nat) : p10 n = (((10 : Nat) ^ n : Nat) : Int) := by unfold p10; simp
/-- A decimal that stands for so many of 10^-k: right, printed and read the same, its interval. -/
theorem dec_facts (V k c s : Nat) (e : canon V k = (c, s)) (hk : k ≤ 4) (hV : V < 10 ^ (3 + k)) (m : Bool) :
    ∃ lo hi : Int, decRight ⟨if m = true then -(c : Int) else c, s⟩ = true ∧ readP (printP ⟨if m = true then -(c : Int) else c, s⟩) = (⟨if m = true then -(c : Int) else c, s⟩, true) ∧
      decIv ⟨if m = true then -(c : Int) else c, s⟩ = ⟨lo, hi, false⟩ ∧ ivRight ⟨lo, hi, false⟩ = true ∧ lo * p10 k ≤ (if m = true then -(V : Int) else V) * 65536 ∧ (if m = true then -(V : Int) else V) * 65536 ≤ hi * p10 k ∧ hi - lo ≤ 1 ∧
      (-100000000 ≤ lo ∧ lo ≤ 100000000) ∧ (-100000000 ≤ hi ∧ hi ≤ 100000000) ∧ (-100000000000000 ≤ lo * p10 k ∧ lo * p10 k ≤ 100000000000000) ∧ (-100000000000000 ≤ hi * p10 k ∧ hi * p10 k ≤ 100000000000000) := by
  obtain ⟨h1, h2, h3⟩ := canon_le V k
  have h4 := canon_fine V k
  rw [e] at h1 h2 h3 h4
  simp only at h1 h2 h3 h4
  -- the powers
  have hpk : (10 : Nat) ^ k = 10 ^ s * 10 ^ (k - s) := by rw [← Nat.pow_add]; congr 1; omega
  have hS1 : 1 ≤ (10 : Nat) ^ s := Nat.pow_pos (by decide)
  have hD1 : 1 ≤ (10 : Nat) ^ (k - s) := Nat.pow_pos (by decide)
  have hk4 : (10 : Nat) ^ k ≤ 10 ^ 4 := Nat.pow_le_pow_right (by decide) hk
  have hc : c < 1000 * 10 ^ s := by
    rw [Nat.pow_add, hpk] at hV
    apply Classical.byContradiction
    intro hn
    have h5 : 1000 * 10 ^ s * 10 ^ (k - s) ≤ c * 10 ^ (k - s) := Nat.mul_le_mul_right _ (by omega)
    have h6 : 1000 * 10 ^ s * 10 ^ (k - s) = 10 ^ 3 * (10 ^ s * 10 ^ (k - s)) := by rw [Nat.mul_assoc]
    omega
  have ecs : ∀ x : Int, x = (if m = true then -(c : Int) else c) → x.natAbs = c := by
    intro x hx
    rw [hx]
    split <;> omega
  obtain ⟨x, hx⟩ : ∃ x : Int, x = (if m = true then -(c : Int) else c) := ⟨_, rfl⟩
  have hxa := ecs x hx
  have hVc : (if m = true then -(V : Int) else V) = x * (((10 : Nat) ^ (k - s) : Nat) : Int) := by
    rw [hx, ← h3]
    split
    · rw [Int.neg_mul, Int.natCast_mul]
    · rw [Int.natCast_mul]
  rw [← hx, hVc]
  clear hVc hx ecs
  have hcb : c < 10000000 := by
    have : (10 : Nat) ^ s ≤ 10 ^ 4 := Nat.pow_le_pow_right (by decide) (by omega)
    omega
  have hR : decRight ⟨x, (s : Int)⟩ = true := by
    apply decRight_mk (by omega) (by omega) (by omega) (by omega)
    rcases h4 with h | h
    · left; omega
    · right
      have : (x.tmod 10).natAbs = x.natAbs % 10 := Int.natAbs_tmod x 10
      omega
  have hH : headP ⟨x, (s : Int)⟩ ≤ 99999 := by
    unfold headP
    simp only
    have e1 : ((s : Int)).toNat = s := by omega
    rw [e1, hxa]
    have : c / 10 ^ s < 1000 := Nat.div_lt_of_lt_mul (by rw [Nat.mul_comm]; exact hc)
    omega
  have hP := read_print _ hR hH
  -- the interval
  have hfd : ∀ a b : Int, 0 < b → (a.fdiv b) * b ≤ a ∧ a < (a.fdiv b) * b + b := by
    intro a b hb
    rw [Int.fdiv_eq_ediv_of_nonneg a (by omega)]
    have e1 := Int.mul_ediv_add_emod a b
    have e2 := Int.emod_nonneg a (show b ≠ 0 by omega)
    have e3 := Int.emod_lt_of_pos a hb
    rw [Int.mul_comm] at e1
    omega
  have hsn : ((s : Int)).toNat = s := by omega
  have hPs : 0 < p10 s := by rw [p10_nat]; omega
  obtain ⟨f1, f2⟩ := hfd (x * 65536) (p10 s) hPs
  obtain ⟨g1, g2⟩ := hfd (-(x * 65536)) (p10 s) hPs
  obtain ⟨lo, hlo⟩ : ∃ lo, (x * 65536).fdiv (p10 s) = lo := ⟨_, rfl⟩
  obtain ⟨nh, hnh⟩ : ∃ nh, (-(x * 65536)).fdiv (p10 s) = nh := ⟨_, rfl⟩
  have hdi : decIv ⟨x, (s : Int)⟩ = ivOf lo (-nh) := by
    unfold decIv
    rw [if_pos hR]
    simp only
    rw [hsn, hlo, hnh]
  rw [hlo] at f1 f2
  rw [hnh] at g1 g2
  clear hlo hnh
  have hxc : -(1000 * p10 s) < x ∧ x < 1000 * p10 s := by
    rw [p10_nat]
    omega
  have hlob : -65536000 ≤ lo ∧ lo ≤ 65536000 := by
    constructor
    · apply Classical.byContradiction
      intro hn
      have h5 : (lo + 1) * p10 s ≤ (-65536000) * p10 s := Int.mul_le_mul_of_nonneg_right (by omega) (by omega)
      rw [Int.add_mul] at h5
      omega
    · apply Classical.byContradiction
      intro hn
      have h5 : 65536001 * p10 s ≤ lo * p10 s := Int.mul_le_mul_of_nonneg_right (by omega) (by omega)
      omega
  have hnhb : -65536000 ≤ nh ∧ nh ≤ 65536000 := by
    constructor
    · apply Classical.byContradiction
      intro hn
      have h5 : (nh + 1) * p10 s ≤ (-65536000) * p10 s := Int.mul_le_mul_of_nonneg_right (by omega) (by omega)
      rw [Int.add_mul] at h5
      omega
    · apply Classical.byContradiction
      intro hn
      have h5 : 65536001 * p10 s ≤ nh * p10 s := Int.mul_le_mul_of_nonneg_right (by omega) (by omega)
      omega
  have hgap : 0 ≤ -nh - lo ∧ -nh - lo ≤ 1 := by
    constructor
    · apply Classical.byContradiction
      intro hn
      have h5 : 0 * p10 s < (lo + nh) * p10 s := Int.mul_lt_mul_of_pos_right (by omega) hPs
      rw [Int.add_mul] at h5
      omega
    · apply Classical.byContradiction
      intro hn
      have h5 : (lo + nh + 2) * p10 s ≤ 0 * p10 s := Int.mul_le_mul_of_nonneg_right (by omega) (by omega)
      rw [Int.add_mul, Int.add_mul] at h5
      omega
  have hr : ivRight ⟨lo, -nh, false⟩ = true := by
    simp only [ivRight, isIn, Bool.and_eq_true, decide_eq_true_eq, Bool.not_eq_true', true_and]
    omega
  have hpk' : p10 k = p10 s * (((10 : Nat) ^ (k - s) : Nat) : Int) := by
    rw [p10_nat, p10_nat, hpk, Int.natCast_mul]
  have hD0 : (0 : Int) ≤ (((10 : Nat) ^ (k - s) : Nat) : Int) := by omega
  refine ⟨lo, -nh, hR, hP, by rw [hdi]; unfold ivOf; rw [if_pos hr], hr, ?_, ?_, by omega, by omega, by omega, ?_, ?_⟩
  · rw [hpk', ← Int.mul_assoc]
    have := Int.mul_le_mul_of_nonneg_right f1 hD0
    grind
  · rw [hpk', ← Int.mul_assoc]
    have h5 : x * 65536 ≤ -nh * p10 s := by rw [Int.neg_mul]; omega
    have := Int.mul_le_mul_of_nonneg_right h5 hD0
    grind
  · have hb := p10_bd k (by omega)
    have h5 : lo * p10 k ≤ 65536000 * p10 k := Int.mul_le_mul_of_nonneg_right (by omega) (by omega)
    have h6 : -65536000 * p10 k ≤ lo * p10 k := Int.mul_le_mul_of_nonneg_right (by omega) (by omega)
    omega
  · have hb := p10_bd k (by omega)
    have h5 : -nh * p10 k ≤ 65536000 * p10 k := Int.mul_le_mul_of_nonneg_right (by omega) (by omega)
    have h6 : -65536000 * p10 k ≤ -nh * p10 k := Int.mul_le_mul_of_nonneg_right (by omega) (by omega)
    omega
/-- The same, of a whole number. -/
theorem dec_facts0 (V c : Nat) (hc : c = V) (hV : V < 1000) (m : Bool) :
    ∃ lo hi : Int, decRight ⟨if m = true then -(c : Int) else c, 0⟩ = true ∧ readP (printP ⟨if m = true then -(c : Int) else c, 0⟩) = (⟨if m = true then -(c : Int) else c, 0⟩, true) ∧
      decIv ⟨if m = true then -(c : Int) else c, 0⟩ = ⟨lo, hi, false⟩ ∧ ivRight ⟨lo, hi, false⟩ = true ∧ lo ≤ (if m = true then -(V : Int) else V) * 65536 ∧ (if m = true then -(V : Int) else V) * 65536 ≤ hi ∧ hi - lo ≤ 1 ∧
      (-100000000 ≤ lo ∧ lo ≤ 100000000) ∧ (-100000000 ≤ hi ∧ hi ≤ 100000000) := by
  obtain ⟨lo, hi, q1, q2, q3, q4, q5, q6, q7, q8, q9, q10, q11⟩ := dec_facts V 0 c 0 (by rw [hc]; rfl) (by omega) (by simpa using hV) m
  have e : p10 0 = 1 := rfl
  rw [e, Int.mul_one] at q5 q6
  exact ⟨lo, hi, q1, q2, q3, q4, q5, q6, q7, q8, q9⟩
theorem printP_len (d : Dec) : (printP d).length ≤ 20 := by
  unfold printP
  by_cases h : decRight d = true ∧ headP d ≤ 99999
  · rw [if_pos h, List.length_append, List.length_append]
    obtain ⟨c, s⟩ := d
    obtain ⟨_, h3, h4, _⟩ := decRight_bd h.1
    have h1 := (dig_len5 _).2 h.2
    have h2 : (if s = 0 then [] else 46 :: tailL c.natAbs s.toNat).length ≤ 7 := by
      split
      · simp
      · rw [List.length_cons, tail_len]; omega
    have h5 : (if c < 0 then [(45 : UInt8)] else []).length ≤ 1 := by split <;> simp
    simp only at h2 h5 h1 ⊢
    omega
  · rw [if_neg h]
    simp
end Go.Proofs.YthnehnabldgagaaDoor

