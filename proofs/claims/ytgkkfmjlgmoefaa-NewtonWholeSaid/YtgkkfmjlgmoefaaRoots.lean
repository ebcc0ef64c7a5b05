/-
  Newton's step over whole numbers, in plain numbers: a line with a whole zero; a product of two.
-/
import Derived.Test.YtgkkfmjlgmoefaaNewtonMath
namespace Go.Proofs.Ytgkkfmjlgmoefaa
set_option linter.unusedVariables false

theorem whole_form {n : Int} (h : -16384 ≤ n ∧ n ≤ 16384) : ivWhole n = ⟨n * 65536, n * 65536, false⟩ := by
  unfold ivWhole
  rw [if_pos (isIn_iff.2 (by omega))]
  exact point_form (by omega)
theorem meet_form {a b : Iv} (ha : ivRight a = true) (hb : ivRight b = true) : ivMeet a b = ivOf (max a.lo b.lo) (min a.hi b.hi) := by
  unfold ivMeet
  rw [if_pos (both_iff.2 ⟨ha, hb⟩)]
theorem meet_yes {a b : Iv} (ha : ivRight a = true) (hb : ivRight b = true) (h : ivRight (ivMeet a b) = true) : ivMeet a b = ⟨max a.lo b.lo, min a.hi b.hi, false⟩ ∧ max a.lo b.lo ≤ min a.hi b.hi := by
  rw [meet_form ha hb] at h ⊢
  have := right_of_of.1 h
  exact ⟨of_yes this, this.2.2⟩
theorem meet_no {a b : Iv} (ha : ivRight a = true) (hb : ivRight b = true) (h : ivRight (ivMeet a b) = false) : ¬ max a.lo b.lo ≤ min a.hi b.hi := by
  intro hh
  rw [meet_form ha hb, of_yes (by have := right_bd ha; have := right_bd hb; omega), ← Bool.not_eq_true, right_of] at h
  have := right_bd ha
  have := right_bd hb
  omega

/-! A line. -/
def wholeF (p k : Int) : Enc := fun x => (ivTimes (ivSub x (ivWhole p)) k, ivWhole k)
theorem whole_next {p k : Int} {t : Iv} (hp : -10 ≤ p ∧ p ≤ 10) (hk : -5 ≤ k ∧ k ≤ 5) (h0 : k ≠ 0) (hr : ivRight t = true) (ht : -2621440 ≤ t.lo ∧ t.hi ≤ 2621440) :
    nNext (wholeF p k) t = ⟨p * 65536, p * 65536, false⟩ := by
  obtain ⟨m, hm⟩ : ∃ m, ivMid t = m := ⟨_, rfl⟩
  have hb := (mid_in hr).2
  rw [hm] at hb
  unfold nNext wholeF
  rw [hm, whole_form (n := p) (by omega), whole_form (n := k) (by omega), point_form (n := m) (by omega)]
  dsimp only
  have e1 : ivSub ⟨m, m, false⟩ ⟨p * 65536, p * 65536, false⟩ = ⟨m - p * 65536, m - p * 65536, false⟩ := by
    rw [sub_eq, if_pos (both_iff.2 ⟨right_of.2 (by omega), right_of.2 (by omega)⟩)]
    exact of_yes (by dsimp only; omega)
  rw [e1]
  obtain ⟨d, hd⟩ : ∃ d, m - p * 65536 = d := ⟨_, rfl⟩
  rw [hd]
  have kd := mul_bd (A := 5) (B := 4000000) (a := k) (b := d) hk (by omega)
  have e2 : ivTimes ⟨d, d, false⟩ k = ⟨k * d, k * d, false⟩ := by
    unfold ivTimes
    rw [show ivRight ⟨d, d, false⟩ = true from right_of.2 (by omega), show isIn k = true from isIn_iff.2 (by omega)]
    simp only [Bool.and_true, if_true, Int.min_self, Int.max_self]
    exact of_yes (by omega)
  rw [e2]
  have f1 : qF (k * d) (k * 65536) = d := by
    unfold qF
    rw [show k * d * 65536 = d * (k * 65536) by grind]
    exact Int.mul_fdiv_cancel _ (by omega)
  have f2 : qC (k * d) (k * 65536) = d := by
    unfold qC
    rw [show -(k * d * 65536) = (-d) * (k * 65536) by grind, Int.mul_fdiv_cancel _ (by omega)]
    omega
  have e3 : ivDiv ⟨k * d, k * d, false⟩ ⟨k * 65536, k * 65536, false⟩ = ⟨d, d, false⟩ := by
    rw [div_yes (both_iff.2 ⟨right_of.2 (by omega), right_of.2 (by omega)⟩) (by unfold Off; dsimp only; omega) (by dsimp only; rw [f1, f2]; omega)]
    dsimp only
    rw [f1, f2]
    unfold min4 max4
    rw [of_yes (by omega)]
    simp only [Int.min_self, Int.max_self]
  rw [e3, sub_eq, if_pos (both_iff.2 ⟨right_of.2 (by omega), right_of.2 (by omega)⟩)]
  dsimp only
  rw [of_yes (by omega)]
  rw [show m - d = p * 65536 by omega]
theorem whole_solve {p k : Int} {t : Iv} (hp : -10 ≤ p ∧ p ≤ 10) (hk : -5 ≤ k ∧ k ≤ 5) (h0 : k ≠ 0) (hr : ivRight t = true) (ht : -2621440 ≤ t.lo ∧ t.hi ≤ 2621440) :
    (t.lo < p * 65536 ∧ p * 65536 < t.hi ∧ nSolve (wholeF p k) t 20 = (⟨p * 65536, p * 65536, false⟩, 1)) ∨
    ((p * 65536 < t.lo ∨ t.hi < p * 65536) ∧ nSolve (wholeF p k) t 20 = (ivNone, 2)) ∨
    ((t.lo = p * 65536 ∨ t.hi = p * 65536) ∧ nSolve (wholeF p k) t 20 = (ivNone, 0)) := by
  have b := right_bd hr
  have rP : ivRight ⟨p * 65536, p * 65536, false⟩ = true := right_of.2 (by omega)
  have n1 := whole_next hp hk h0 hr ht
  have n2 := whole_next hp hk h0 (t := ⟨p * 65536, p * 65536, false⟩) rP (by dsimp only; omega)
  have rn1 : ivRight (nNext (wholeF p k) t) = true := by rw [n1]; exact rP
  have rn2 : ivRight (nNext (wholeF p k) ⟨p * 65536, p * 65536, false⟩) = true := by rw [n2]; exact rP
  have e0 : nSolve (wholeF p k) t 20 = nLoop (wholeF p k) 20 false t := by
    unfold nSolve; rw [if_pos hr]; rfl
  have m2 : ivMeet ⟨p * 65536, p * 65536, false⟩ (nNext (wholeF p k) ⟨p * 65536, p * 65536, false⟩) = ⟨p * 65536, p * 65536, false⟩ := by
    rw [n2, meet_form rP rP]
    dsimp only
    rw [of_yes (by omega)]
    simp
  have last : ∀ y, nLoop (wholeF p k) 19 y ⟨p * 65536, p * 65536, false⟩ = nEnd y ⟨p * 65536, p * 65536, false⟩ := fun y => by
    have := (loop_end (k := 18) (y := y) rn2 (by rw [m2]; exact rP) m2).1
    rw [this, sure_no1 (by rw [n2]; exact Int.le_refl _)]
  rw [e0]
  have m1 : ivMeet t (nNext (wholeF p k) t) = ivOf (max t.lo (p * 65536)) (min t.hi (p * 65536)) := by rw [n1, meet_form hr rP]
  by_cases hin : t.lo ≤ p * 65536 ∧ p * 65536 ≤ t.hi
  · have m1' : ivMeet t (nNext (wholeF p k) t) = ⟨p * 65536, p * 65536, false⟩ := by
      rw [m1, show max t.lo (p * 65536) = p * 65536 by omega, show min t.hi (p * 65536) = p * 65536 by omega]
      exact of_yes (by omega)
    have hu : ivRight (ivMeet t (nNext (wholeF p k) t)) = true := by rw [m1']; exact rP
    have key : nLoop (wholeF p k) 20 false t = nEnd (false || nSure (wholeF p k) t) ⟨p * 65536, p * 65536, false⟩ := by
      by_cases he : ivMeet t (nNext (wholeF p k) t) = t
      · rw [(loop_end (k := 19) (y := false) rn1 hu he).1]
        rw [m1'] at he
        rw [← he]
      · rw [(loop_on (k := 19) (y := false) rn1 hu he).1, m1', last]
    rw [key]
    by_cases hs : t.lo < p * 65536 ∧ p * 65536 < t.hi
    · left
      refine ⟨hs.1, hs.2, ?_⟩
      rw [sure_yes (by rw [n1]; exact hs.1) (by rw [n1]; exact hs.2)]
      rfl
    · right; right
      refine ⟨by omega, ?_⟩
      have : (false || nSure (wholeF p k) t) = false := by
        by_cases h1 : t.lo < p * 65536
        · exact sure_no2 (by rw [n1]; dsimp only; omega)
        · exact sure_no1 (by rw [n1]; dsimp only; omega)
      rw [this]
      rfl
  · right; left
    refine ⟨by omega, ?_⟩
    have hu : ivRight (ivMeet t (nNext (wholeF p k) t)) = false := by
      rw [m1, of_no (by omega)]
      rfl
    rw [(loop_no (k := 19) (y := false) rn1 hu).1]

/-! A product of two steps. -/
def rootsF (p q : Int) : Enc := fun x => (ivMul (ivSub x (ivWhole p)) (ivSub x (ivWhole q)), ivSub (ivTimes x 2) (ivWhole (p + q)))
theorem div_frac {x y : Iv} {a b q : Int} (h : ivRight (ivDiv x y) = true) (hB : 0 ≤ b) (ha : x.lo * b ≤ a ∧ a ≤ x.hi * b) (hq : y.lo ≤ q ∧ q ≤ y.hi) :
    (0 < q ∧ (ivDiv x y).lo * q * b ≤ a * 65536 ∧ a * 65536 ≤ (ivDiv x y).hi * q * b) ∨ (q < 0 ∧ a * 65536 ≤ (ivDiv x y).lo * q * b ∧ (ivDiv x y).hi * q * b ≤ a * 65536) := by
  have bx := right_bd (both_iff.1 (div_right h).1).1
  have d1 := div_encloses (p := x.lo) (q := q) h (by omega) hq
  have d2 := div_encloses (p := x.hi) (q := q) h (by omega) hq
  have e : ∀ u : Int, u * 65536 * b = u * b * 65536 := fun u => Int.mul_right_comm u 65536 b
  rcases d1 with ⟨g, d1, d1'⟩ | ⟨g, d1, d1'⟩
  · rcases d2 with ⟨-, d2, d2'⟩ | ⟨g', -⟩
    · have m1 := Int.mul_le_mul_of_nonneg_right d1 hB
      have m2 := Int.mul_le_mul_of_nonneg_right d2' hB
      rw [e] at m1 m2
      exact .inl ⟨g, by omega, by omega⟩
    · omega
  · rcases d2 with ⟨g', -⟩ | ⟨-, d2, d2'⟩
    · omega
    · have m1 := Int.mul_le_mul_of_nonneg_right d1' hB
      have m2 := Int.mul_le_mul_of_nonneg_right d2 hB
      rw [e] at m1 m2
      exact .inr ⟨g, by omega, by omega⟩

/-- What the value and the slope have, where the next step is right. -/
theorem roots_parts {p q : Int} {t : Iv} (hp : -16384 ≤ p ∧ p ≤ 16384) (hq : -16384 ≤ q ∧ q ≤ 16384) (hpq : -16384 ≤ p + q ∧ p + q ≤ 16384) (hr : ivRight t = true)
    (hn : ivRight (nNext (rootsF p q) t) = true) :
    ∃ m d e : Int, (t.lo ≤ m ∧ m ≤ t.hi) ∧ (nNext (rootsF p q) t).lo = m - e ∧ (nNext (rootsF p q) t).hi = m - d ∧
      ¬ (2 * t.lo - (p + q) * 65536 ≤ 0 ∧ 0 ≤ 2 * t.hi - (p + q) * 65536) ∧
      ∀ s, 2 * t.lo - (p + q) * 65536 ≤ s → s ≤ 2 * t.hi - (p + q) * 65536 →
        (0 < s ∧ d * s ≤ (m - p * 65536) * (m - q * 65536) ∧ (m - p * 65536) * (m - q * 65536) ≤ e * s) ∨ (s < 0 ∧ (m - p * 65536) * (m - q * 65536) ≤ d * s ∧ e * s ≤ (m - p * 65536) * (m - q * 65536)) := by
  obtain ⟨m, hm⟩ : ∃ m, ivMid t = m := ⟨_, rfl⟩
  have hb := (mid_in hr).2
  have bt := right_bd hr
  rw [hm] at hb
  unfold nNext at hn ⊢
  rw [hm, point_form (n := m) (by omega)] at hn ⊢
  obtain ⟨⟨-, rd⟩, n1, n2⟩ := sub_ends hn
  obtain ⟨hbd, hoff, -⟩ := div_right rd
  obtain ⟨rv, rs⟩ := both_iff.1 hbd
  unfold rootsF at rv rs hoff
  dsimp only at rv rs hoff
  rw [whole_form (n := p + q) (by omega)] at rs hoff
  rw [whole_form (n := p) (by omega), whole_form (n := q) (by omega)] at rv
  obtain ⟨⟨r2, -⟩, s1, s2⟩ := sub_ends rs
  obtain ⟨-, t1, t2⟩ := two_ends r2
  obtain ⟨ra, rb⟩ := rights_mul rv
  obtain ⟨-, a1, a2⟩ := sub_ends ra
  obtain ⟨-, b1, b2⟩ := sub_ends rb
  have mf := mul_frac (a := m - p * 65536) (P := m - q * 65536) (Q := 1) rv (by omega) (by rw [a1, a2]; dsimp only; omega) (by rw [b1, b2]; dsimp only; omega)
  unfold Off at hoff
  rw [s1, s2, t1, t2] at hoff
  dsimp only at hoff
  refine ⟨m, _, _, hb, n1, n2, hoff, fun s h1 h2 => ?_⟩
  have df := div_frac (a := (m - p * 65536) * (m - q * 65536)) (b := 65536) (q := s) rd (by omega)
    (by unfold rootsF; dsimp only; rw [whole_form (n := p) (by omega), whole_form (n := q) (by omega)]; omega)
    (by unfold rootsF; dsimp only; rw [whole_form (n := p + q) (by omega), s1, s2, t1, t2]; dsimp only; omega)
  omega
theorem le_of_mul_pos {a b s : Int} (h : 0 < s) (k : a * s ≤ b * s) : a ≤ b := Int.le_of_mul_le_mul_right k h
theorem le_of_mul_neg {a b s : Int} (h : s < 0) (k : b * s ≤ a * s) : a ≤ b := by
  rw [← Int.neg_le_neg_iff, ← Int.mul_neg, ← Int.mul_neg] at k
  exact Int.le_of_mul_le_mul_right k (by omega)
/-- A zero in the interval lies in the next step, too; not both do; where the next step lies well within, one does. -/
theorem roots_step {p q : Int} {t : Iv} (hp : -16384 ≤ p ∧ p ≤ 16384) (hq : -16384 ≤ q ∧ q ≤ 16384) (hpq : -16384 ≤ p + q ∧ p + q ≤ 16384) (hlt : p < q) (hr : ivRight t = true)
    (hn : ivRight (nNext (rootsF p q) t) = true) :
    (t.lo ≤ p * 65536 → p * 65536 ≤ t.hi → (nNext (rootsF p q) t).lo ≤ p * 65536 ∧ p * 65536 ≤ (nNext (rootsF p q) t).hi) ∧
    (t.lo ≤ q * 65536 → q * 65536 ≤ t.hi → (nNext (rootsF p q) t).lo ≤ q * 65536 ∧ q * 65536 ≤ (nNext (rootsF p q) t).hi) ∧
    (t.lo < (nNext (rootsF p q) t).lo → (nNext (rootsF p q) t).hi < t.hi →
      (t.lo ≤ p * 65536 ∧ p * 65536 ≤ t.hi ∧ ¬ (t.lo ≤ q * 65536 ∧ q * 65536 ≤ t.hi)) ∨ (t.lo ≤ q * 65536 ∧ q * 65536 ≤ t.hi ∧ ¬ (t.lo ≤ p * 65536 ∧ p * 65536 ≤ t.hi))) := by
  obtain ⟨m, d, e, hb, n1, n2, hoff, key⟩ := roots_parts hp hq hpq hr hn
  rw [n1, n2]
  have bt := right_bd hr
  obtain ⟨P, hP⟩ : ∃ P, p * 65536 = P := ⟨_, rfl⟩
  obtain ⟨Q, hQ⟩ : ∃ Q, q * 65536 = Q := ⟨_, rfl⟩
  have hS : (p + q) * 65536 = P + Q := by omega
  have hPQ : P < Q := by omega
  rw [hS] at hoff key
  simp only [hP, hQ] at key ⊢
  refine ⟨fun h1 h2 => ?_, fun h1 h2 => ?_, fun h1 h2 => ?_⟩
  · rcases key (m - Q) (by omega) (by omega) with ⟨g, k1, k2⟩ | ⟨g, k1, k2⟩
    · have := le_of_mul_pos g k1
      have := le_of_mul_pos g k2
      omega
    · have := le_of_mul_neg g k1
      have := le_of_mul_neg g k2
      omega
  · rw [Int.mul_comm (m - P)] at key
    rcases key (m - P) (by omega) (by omega) with ⟨g, k1, k2⟩ | ⟨g, k1, k2⟩
    · have := le_of_mul_pos g k1
      have := le_of_mul_pos g k2
      omega
    · have := le_of_mul_neg g k1
      have := le_of_mul_neg g k2
      omega
  · have i1 : (t.hi - P) * (t.hi - Q) = (m - P) * (m - Q) + (t.hi - m) * (m + t.hi - (P + Q)) := by grind
    have i2 : (t.lo - P) * (t.lo - Q) = (m - P) * (m - Q) + (t.lo - m) * (m + t.lo - (P + Q)) := by grind
    have j1 : d * (m + t.hi - (P + Q)) = (d - (m - t.hi)) * (m + t.hi - (P + Q)) - (t.hi - m) * (m + t.hi - (P + Q)) := by grind
    have j2 : e * (m + t.lo - (P + Q)) = (e - (m - t.lo)) * (m + t.lo - (P + Q)) - (t.lo - m) * (m + t.lo - (P + Q)) := by grind
    rcases key (m + t.hi - (P + Q)) (by omega) (by omega) with ⟨g, k1, -⟩ | ⟨g, k1, -⟩
    · rcases key (m + t.lo - (P + Q)) (by omega) (by omega) with ⟨g', -, k2⟩ | ⟨g', -, k2⟩
      · have u1 := Int.mul_pos (show 0 < d - (m - t.hi) by omega) g
        have u2 := Int.mul_pos (show 0 < -(e - (m - t.lo)) by omega) g'
        rw [Int.neg_mul] at u2
        have v1 : 0 < (t.hi - P) * (t.hi - Q) := by omega
        have v2 : (t.lo - P) * (t.lo - Q) < 0 := by omega
        right
        by_cases c1 : t.lo - P ≤ 0
        · have := Int.mul_nonneg (show 0 ≤ -(t.lo - P) by omega) (show 0 ≤ -(t.lo - Q) by omega)
          rw [Int.neg_mul_neg] at this
          omega
        · by_cases c2 : t.lo - Q ≥ 0
          · have := Int.mul_nonneg (show 0 ≤ (t.lo - P) by omega) (show 0 ≤ (t.lo - Q) by omega)
            omega
          · by_cases c3 : t.hi - Q ≤ 0
            · have := Int.mul_nonneg (show 0 ≤ (t.hi - P) by omega) (show 0 ≤ -(t.hi - Q) by omega)
              rw [Int.mul_neg] at this
              omega
            · omega
      · omega
    · rcases key (m + t.lo - (P + Q)) (by omega) (by omega) with ⟨g', -, k2⟩ | ⟨g', -, k2⟩
      · omega
      · have u1 := Int.mul_pos (show 0 < d - (m - t.hi) by omega) (show 0 < -(m + t.hi - (P + Q)) by omega)
        have u2 := Int.mul_pos (show 0 < -(e - (m - t.lo)) by omega) (show 0 < -(m + t.lo - (P + Q)) by omega)
        rw [Int.mul_neg] at u1
        rw [Int.neg_mul_neg] at u2
        have v1 : (t.hi - P) * (t.hi - Q) < 0 := by omega
        have v2 : 0 < (t.lo - P) * (t.lo - Q) := by omega
        left
        by_cases c1 : t.hi - Q ≥ 0
        · have := Int.mul_nonneg (show 0 ≤ (t.hi - P) by omega) (show 0 ≤ (t.hi - Q) by omega)
          omega
        · by_cases c2 : t.hi - P ≤ 0
          · have := Int.mul_nonneg (show 0 ≤ -(t.hi - P) by omega) (show 0 ≤ -(t.hi - Q) by omega)
            rw [Int.neg_mul_neg] at this
            omega
          · by_cases c3 : t.lo - P ≥ 0
            · have := Int.mul_nonneg (show 0 ≤ (t.lo - P) by omega) (show 0 ≤ -(t.lo - Q) by omega)
              rw [Int.mul_neg] at this
              omega
            · omega
/-- Where the value is told, a zero in the interval shows. -/
theorem roots_out {p q : Int} {t : Iv} (hp : -16384 ≤ p ∧ p ≤ 16384) (hq : -16384 ≤ q ∧ q ≤ 16384) (h : nOut (rootsF p q) t = true) :
    ¬ (t.lo ≤ p * 65536 ∧ p * 65536 ≤ t.hi) ∧ ¬ (t.lo ≤ q * 65536 ∧ q * 65536 ≤ t.hi) := by
  unfold nOut at h
  rw [Bool.and_eq_true] at h
  obtain ⟨h1, h2⟩ := h
  have hz := has_zero h1
  rw [hz] at h2
  unfold rootsF at h1 h2
  dsimp only at h1 h2
  rw [whole_form (n := p) (by omega), whole_form (n := q) (by omega)] at h1 h2
  obtain ⟨ra, rb⟩ := rights_mul h1
  obtain ⟨-, a1, a2⟩ := sub_ends ra
  obtain ⟨-, b1, b2⟩ := sub_ends rb
  dsimp only at a1 a2 b1 b2
  simp only [Bool.not_eq_true', decide_eq_false_iff_not] at h2
  refine ⟨fun ⟨k1, k2⟩ => h2 ?_, fun ⟨k1, k2⟩ => h2 ?_⟩
  · have mf := mul_frac (a := 0) (P := p * 65536 - q * 65536) (Q := 1) h1 (by omega) (by rw [a1, a2]; omega) (by rw [b1, b2]; omega)
    omega
  · have mf := mul_frac (a := q * 65536 - p * 65536) (P := 0) (Q := 1) h1 (by omega) (by rw [a1, a2]; omega) (by rw [b1, b2]; omega)
    omega
/-- The half that is left has each zero that the whole has. -/
theorem roots_half {p q : Int} {t : Iv} (hp : -16384 ≤ p ∧ p ≤ 16384) (hq : -16384 ≤ q ∧ q ≤ 16384) (hr : ivRight t = true) (hh : ivRight (nHalf (rootsF p q) t) = true) :
    (t.lo ≤ (nHalf (rootsF p q) t).lo ∧ (nHalf (rootsF p q) t).hi ≤ t.hi) ∧
    (t.lo ≤ p * 65536 → p * 65536 ≤ t.hi → (nHalf (rootsF p q) t).lo ≤ p * 65536 ∧ p * 65536 ≤ (nHalf (rootsF p q) t).hi) ∧
    (t.lo ≤ q * 65536 → q * 65536 ≤ t.hi → (nHalf (rootsF p q) t).lo ≤ q * 65536 ∧ q * 65536 ≤ (nHalf (rootsF p q) t).hi) := by
  obtain ⟨es, -, -, m1, m2⟩ := split_form hr
  unfold nHalf at hh ⊢
  rw [es] at hh ⊢
  dsimp only at hh ⊢
  cases ha : nOut (rootsF p q) ⟨t.lo, ivMid t, false⟩
  · rw [ha] at hh
    cases hb : nOut (rootsF p q) ⟨ivMid t, t.hi, false⟩
    · rw [hb] at hh
      cases hh
    · have o := roots_out hp hq hb
      simp only [if_true, Bool.false_eq_true, if_false]
      dsimp only at o
      omega
  · have o := roots_out hp hq ha
    simp only [if_true]
    dsimp only at o
    omega
theorem roots_loop {p q : Int} (hp : -16384 ≤ p ∧ p ≤ 16384) (hq : -16384 ≤ q ∧ q ≤ 16384) (hpq : -16384 ≤ p + q ∧ p + q ≤ 16384) (hlt : p < q) : ∀ (k : Nat) (y : Bool) (t : Iv), ivRight t = true →
    ((nLoop (rootsF p q) k y t).2 = 1 ∧ ivRight (nLoop (rootsF p q) k y t).1 = true ∧ (t.lo ≤ (nLoop (rootsF p q) k y t).1.lo ∧ (nLoop (rootsF p q) k y t).1.hi ≤ t.hi) ∧
      (t.lo ≤ p * 65536 → p * 65536 ≤ t.hi → (nLoop (rootsF p q) k y t).1.lo ≤ p * 65536 ∧ p * 65536 ≤ (nLoop (rootsF p q) k y t).1.hi) ∧
      (t.lo ≤ q * 65536 → q * 65536 ≤ t.hi → (nLoop (rootsF p q) k y t).1.lo ≤ q * 65536 ∧ q * 65536 ≤ (nLoop (rootsF p q) k y t).1.hi) ∧
      (y = true ∨ (t.lo ≤ p * 65536 ∧ p * 65536 ≤ t.hi ∧ ¬ (t.lo ≤ q * 65536 ∧ q * 65536 ≤ t.hi)) ∨ (t.lo ≤ q * 65536 ∧ q * 65536 ≤ t.hi ∧ ¬ (t.lo ≤ p * 65536 ∧ p * 65536 ≤ t.hi)))) ∨
    (nLoop (rootsF p q) k y t = (ivNone, 2) ∧ ¬ (t.lo ≤ p * 65536 ∧ p * 65536 ≤ t.hi) ∧ ¬ (t.lo ≤ q * 65536 ∧ q * 65536 ≤ t.hi)) ∨
    nLoop (rootsF p q) k y t = (ivNone, 0) := by
  have fin : ∀ (y : Bool) (t : Iv), ivRight t = true → (y = true → True) → (nEnd y t = (t, 1) ∧ y = true) ∨ nEnd y t = (ivNone, 0) := fun y t _ _ => by
    cases y
    · exact .inr rfl
    · exact .inl ⟨rfl, rfl⟩
  intro k
  induction k with
  | zero =>
    intro y t hr
    have e : nLoop (rootsF p q) 0 y t = nEnd y t := rfl
    rw [e]
    rcases fin y t hr (fun _ => trivial) with ⟨e1, hy⟩ | e1
    · rw [e1]
      exact .inl ⟨rfl, hr, by dsimp only; omega, fun h1 h2 => ⟨h1, h2⟩, fun h1 h2 => ⟨h1, h2⟩, .inl hy⟩
    · exact .inr (.inr e1)
  | succ k ih =>
    intro y t hr
    have bt := right_bd hr
    cases hn : ivRight (nNext (rootsF p q) t)
    · cases hh : ivRight (nHalf (rootsF p q) t)
      · exact .inr (.inr (loop_none hn hh).1)
      · rw [(loop_half hn hh).1]
        obtain ⟨u1, u2, u3⟩ := roots_half hp hq hr hh
        have bu := right_bd hh
        have I := ih y _ hh
        generalize nHalf (rootsF p q) t = u at *
        generalize nLoop (rootsF p q) k y u = R at *
        rcases I with ⟨g1, g2, g3, g4, g5, g6⟩ | ⟨g1, g2, g3⟩ | g1
        · refine .inl ⟨g1, g2, by omega, fun h1 h2 => g4 (u2 h1 h2).1 (u2 h1 h2).2, fun h1 h2 => g5 (u3 h1 h2).1 (u3 h1 h2).2, ?_⟩
          rcases g6 with g6 | g6 | g6
          · exact .inl g6
          · exact .inr (.inl ⟨by omega, by omega, fun h => g6.2.2 (u3 h.1 h.2)⟩)
          · exact .inr (.inr ⟨by omega, by omega, fun h => g6.2.2 (u2 h.1 h.2)⟩)
        · exact .inr (.inl ⟨g1, fun h => g2 (u2 h.1 h.2), fun h => g3 (u3 h.1 h.2)⟩)
        · exact .inr (.inr g1)
    · obtain ⟨z1, z2, z3⟩ := roots_step hp hq hpq hlt hr hn
      cases hu : ivRight (ivMeet t (nNext (rootsF p q) t))
      · have mn := meet_no hr hn hu
        exact .inr (.inl ⟨(loop_no hn hu).1, fun h => by have := z1 h.1 h.2; omega, fun h => by have := z2 h.1 h.2; omega⟩)
      · obtain ⟨me, ml⟩ := meet_yes hr hn hu
        have one : ∀ y', (y || nSure (rootsF p q) t) = y' → y' = true → y = true ∨ (t.lo ≤ p * 65536 ∧ p * 65536 ≤ t.hi ∧ ¬ (t.lo ≤ q * 65536 ∧ q * 65536 ≤ t.hi)) ∨ (t.lo ≤ q * 65536 ∧ q * 65536 ≤ t.hi ∧ ¬ (t.lo ≤ p * 65536 ∧ p * 65536 ≤ t.hi)) := fun y' e hy => by
          subst e
          rw [Bool.or_eq_true] at hy
          rcases hy with hy | hy
          · exact .inl hy
          · unfold nSure at hy
            simp only [Bool.and_eq_true, decide_eq_true_eq] at hy
            exact .inr (z3 hy.1 hy.2)
        by_cases he : ivMeet t (nNext (rootsF p q) t) = t
        · rw [(loop_end hn hu he).1]
          rcases fin (y || nSure (rootsF p q) t) t hr (fun _ => trivial) with ⟨e1, hy⟩ | e1
          · rw [e1]
            exact .inl ⟨rfl, hr, by dsimp only; omega, fun h1 h2 => ⟨h1, h2⟩, fun h1 h2 => ⟨h1, h2⟩, one _ rfl hy⟩
          · exact .inr (.inr e1)
        · rw [(loop_on hn hu he).1]
          have I := ih (y || nSure (rootsF p q) t) _ hu
          rw [me] at I ⊢
          dsimp only at I
          generalize nNext (rootsF p q) t = n at *
          obtain ⟨y', hy'⟩ : ∃ y', (y || nSure (rootsF p q) t) = y' := ⟨_, rfl⟩
          have one' := one y' hy'
          clear one
          rw [hy'] at I ⊢
          generalize nLoop (rootsF p q) k y' ⟨max t.lo n.lo, min t.hi n.hi, false⟩ = R at *
          rcases I with ⟨g1, g2, g3, g4, g5, g6⟩ | ⟨g1, g2, g3⟩ | g1
          · refine .inl ⟨g1, g2, by omega, fun h1 h2 => by have := z1 h1 h2; exact g4 (by omega) (by omega), fun h1 h2 => by have := z2 h1 h2; exact g5 (by omega) (by omega), ?_⟩
            rcases g6 with g6 | g6 | g6
            · exact one' g6
            · exact .inr (.inl ⟨by omega, by omega, fun h => g6.2.2 (by have := z2 h.1 h.2; omega)⟩)
            · exact .inr (.inr ⟨by omega, by omega, fun h => g6.2.2 (by have := z1 h.1 h.2; omega)⟩)
          · exact .inr (.inl ⟨g1, fun h => g2 (by have := z1 h.1 h.2; omega), fun h => g3 (by have := z2 h.1 h.2; omega)⟩)
          · exact .inr (.inr g1)
theorem has_iff {a : Iv} {n : Int} (h : ivRight a = true) : ivHas a n = decide (a.lo ≤ n ∧ n ≤ a.hi) := by
  unfold ivHas
  rw [h, Bool.true_and]
  by_cases h1 : a.lo ≤ n <;> by_cases h2 : n ≤ a.hi <;> simp [h1, h2]
/-- As the law asks. -/
theorem roots_solve {p q : Int} {t : Iv} {most : Int} (hp : -16384 ≤ p ∧ p ≤ 16384) (hq : -16384 ≤ q ∧ q ≤ 16384) (hpq : -16384 ≤ p + q ∧ p + q ≤ 16384) (hlt : p < q) (hr : ivRight t = true) :
    ((nSolve (rootsF p q) t most).2 = 1 ∧ ivInside (nSolve (rootsF p q) t most).1 t = true ∧
      ((ivHas t (p * 65536) = true ∧ ivHas t (q * 65536) = false ∧ ivHas (nSolve (rootsF p q) t most).1 (p * 65536) = true) ∨ (ivHas t (p * 65536) = false ∧ ivHas t (q * 65536) = true ∧ ivHas (nSolve (rootsF p q) t most).1 (q * 65536) = true))) ∨
    ((nSolve (rootsF p q) t most).2 = 2 ∧ (nSolve (rootsF p q) t most).1 = ivNone ∧ ivHas t (p * 65536) = false ∧ ivHas t (q * 65536) = false) ∨
    ((nSolve (rootsF p q) t most).2 = 0 ∧ (nSolve (rootsF p q) t most).1 = ivNone) := by
  have e : nSolve (rootsF p q) t most = nLoop (rootsF p q) (nMost most) false t := by unfold nSolve; rw [if_pos hr]
  have I := roots_loop hp hq hpq hlt (nMost most) false t hr
  rw [← e] at I
  generalize nSolve (rootsF p q) t most = R at *
  rw [has_iff hr, has_iff hr]
  rcases I with ⟨g1, g2, g3, g4, g5, g6⟩ | ⟨g1, g2, g3⟩ | g1
  · refine .inl ⟨g1, inside_iff.2 ⟨g2, hr, g3⟩, ?_⟩
    rw [has_iff g2, has_iff g2]
    rcases g6 with g6 | ⟨k1, k2, k3⟩ | ⟨k1, k2, k3⟩
    · cases g6
    · exact .inl ⟨decide_eq_true ⟨k1, k2⟩, decide_eq_false k3, decide_eq_true (g4 k1 k2)⟩
    · exact .inr ⟨decide_eq_false k3, decide_eq_true ⟨k1, k2⟩, decide_eq_true (g5 k1 k2)⟩
  · rw [g1]
    exact .inr (.inl ⟨rfl, rfl, decide_eq_false g2, decide_eq_false g3⟩)
  · rw [g1]
    exact .inr (.inr ⟨rfl, rfl⟩)
end Go.Proofs.Ytgkkfmjlgmoefaa

