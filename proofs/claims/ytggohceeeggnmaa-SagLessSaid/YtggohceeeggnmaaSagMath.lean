/-
  How deep a face is, in plain numbers: of less it is less; on the axis it is nothing; turned about.
-/
import Derived.Test.YtggohceeeggnmaaSysMath
import Derived.Test.YtggohceeeggnmaaGb
import Derived.Test.YtggohceeeggnmaaGc
namespace Go.Proofs.Ytggohceeeggnmaa
set_option linter.unusedVariables false

def sagQ (s : Sf) (r : Iv) : Iv := ivRoot (ivSub oneI (ivMul (ivMul s.conic (ivSqr s.curve)) r))
def sagZ0 (s : Sf) (r : Iv) : Iv := ivDiv (ivMul s.curve r) (ivAdd oneI (sagQ s r))
def sagM0 (s : Sf) (r : Iv) : Iv := ivDiv s.curve (ivTimes (sagQ s r) 2)
def sagU (r : Iv) : Iv := ivDiv r (ivWhole 1000)
def sagL (s : Sf) : List Iv := [ivPoint 0, ivPoint 0, s.a4, s.a6]
def sagZt (s : Sf) (r : Iv) : Iv := if s.bent = true then ivAdd (sagZ0 s r) (horner (sagL s) (sagU r)) else sagZ0 s r
def sagMt (s : Sf) (r : Iv) : Iv := if s.bent = true then ivAdd (sagM0 s r) (ivDiv (horner (slope (sagL s)) (sagU r)) (ivWhole 1000)) else sagM0 s r
def sagOk (s : Sf) (r : Iv) : Bool := ivRight (sagZt s r) && ivRight (sagMt s r)
def sagZ (s : Sf) (r : Iv) : Iv := if sagOk s r = true then sagZt s r else ivNone
def sagM (s : Sf) (r : Iv) : Iv := if sagOk s r = true then sagMt s r else ivNone

/-! ### Of less -/
theorem lessSelf (a : Iv) : ivLess a a = true := by
  cases h : ivRight a
  · exact lessBad h
  · exact partLess (part_refl h)
theorem lessTimes {p x : Iv} (k : Int) (h : ivLess p x = true) : ivLess (ivTimes p k) (ivTimes x k) = true := by
  cases hr : ivRight (ivTimes x k)
  · exact lessBad hr
  · refine less_times k (lessPart h ?_)
    unfold ivTimes at hr
    cases hx : ivRight x
    · rw [hx] at hr
      simp [right_none] at hr
    · rfl
theorem horner_mono {p x : Iv} (h : ivLess p x = true) : ∀ l : List Iv, ivLess (horner l p) (horner l x) = true
  | [] => lessSelf _
  | [_] => lessSelf _
  | a :: b :: l => lessAdd (lessMul (horner_mono h (b :: l)) h) (lessSelf a)
theorem less_rights {p x : Iv} (h : ivLess p x = true) (hx : ivRight x = true) : ivRight p = true ∧ ivInside p x = true := by
  unfold ivLess at h
  rw [hx] at h
  have h1 : ivInside p x = true := by simpa using h
  exact ⟨(inside_iff.1 h1).1, h1⟩
theorem sagQ_less (s : Sf) {p r : Iv} (h : ivLess p r = true) : ivLess (sagQ s p) (sagQ s r) = true :=
  lessRoot (lessSub (lessSelf _) (lessMul (lessSelf _) h))
theorem sagZt_less (s : Sf) {p r : Iv} (h : ivLess p r = true) : ivLess (sagZt s p) (sagZt s r) = true := by
  have h0 : ivLess (sagZ0 s p) (sagZ0 s r) = true := lessDiv (lessMul (lessSelf _) h) (lessAdd (lessSelf _) (sagQ_less s h))
  unfold sagZt
  split
  · exact lessAdd h0 (horner_mono (lessDiv h (lessSelf _)) _)
  · exact h0
theorem sagMt_less (s : Sf) {p r : Iv} (h : ivLess p r = true) : ivLess (sagMt s p) (sagMt s r) = true := by
  have h0 : ivLess (sagM0 s p) (sagM0 s r) = true := lessDiv (lessSelf _) (lessTimes 2 (sagQ_less s h))
  unfold sagMt
  split
  · exact lessAdd h0 (lessDiv (horner_mono (lessDiv h (lessSelf _)) _) (lessSelf _))
  · exact h0
theorem sagZ_ok {s : Sf} {r : Iv} (h : ivRight (sagZ s r) = true) : sagOk s r = true := by
  unfold sagZ at h
  by_cases hk : sagOk s r = true
  · exact hk
  · rw [if_neg hk] at h
    cases h
/-- Nearer to one distance the depth and the slope lie in the wider one's. -/
theorem sag_less (s : Sf) {p r : Iv} (h : ivLess p r = true) (hr : ivRight (sagZ s r) = true) : ivInside (sagZ s p) (sagZ s r) = true ∧ ivInside (sagM s p) (sagM s r) = true := by
  have hk := sagZ_ok hr
  have hk' := hk
  unfold sagOk at hk'
  rw [Bool.and_eq_true] at hk'
  have hz := less_rights (sagZt_less s h) hk'.1
  have hm := less_rights (sagMt_less s h) hk'.2
  have hp : sagOk s p = true := by unfold sagOk; rw [hz.1, hm.1]; rfl
  unfold sagZ sagM
  rw [if_pos hk, if_pos hp, if_pos hk, if_pos hp]
  exact ⟨hz.2, hm.2⟩

/-! ### Turned about -/
theorem negMul (a b : Iv) : ivMul (ivNeg a) b = ivNeg (ivMul a b) := by
  cases ha : ivRight a
  · have : ivMul a b = ivNone := by
      unfold ivMul ivBoth
      rw [ha]
      rfl
    rw [neg_bad ha, mul_none, this]
    rfl
  cases hb : ivRight b
  · have h1 : ∀ c, ivMul c b = ivNone := fun c => by
      unfold ivMul ivBoth
      rw [hb, Bool.and_false]
      rfl
    rw [h1, h1]
    rfl
  exact neg_mul' ha hb
theorem negDiv (a b : Iv) : ivDiv (ivNeg a) b = ivNeg (ivDiv a b) := by
  cases ha : ivRight a
  · have h1 : ∀ c, ivRight c = false → ivDiv c b = ivNone := fun c hc => by
      unfold ivDiv ivBoth
      rw [hc]
      rfl
    rw [neg_bad ha, h1 _ rfl, h1 _ ha]
    rfl
  exact div_neg ha
theorem negTimes (a : Iv) (k : Int) : ivTimes (ivNeg a) k = ivNeg (ivTimes a k) := by
  cases ha : ivRight a
  · have h1 : ∀ c, ivRight c = false → ivTimes c k = ivNone := fun c hc => by
      unfold ivTimes
      rw [hc]
      rfl
    rw [neg_bad ha, h1 _ rfl, h1 _ ha]
    rfl
  unfold ivTimes
  rw [right_neg ha, ha, neg_form ha]
  cases hk : isIn k
  · rfl
  · simp only [Bool.and_self, if_true]
    rw [neg_of]
    rw [Int.mul_neg, Int.mul_neg]
    congr 1 <;> omega
/-! ### On the axis -/
structure Mild (s : Sf) : Prop where
  curve : ivRight s.curve = true ∧ -8192 ≤ s.curve.lo ∧ s.curve.hi ≤ 8192
  conic : Small s.conic
  a4 : Small s.a4
  a6 : Small s.a6
theorem times_small {a : Iv} (h : Small a) {k : Int} (h0 : 0 ≤ k) (h1 : k ≤ 3) : ivRight (ivTimes a k) = true := by
  have b := small_bd h
  have e0 : (0 : Int) * a.lo = 0 := by omega
  unfold ivTimes
  rw [h.1, isIn_iff.2 (by omega)]
  simp only [Bool.and_self, if_true]
  have hk : k = 0 ∨ k = 1 ∨ k = 2 ∨ k = 3 := by omega
  rcases hk with rfl | rfl | rfl | rfl <;> exact right_of_of.2 (by omega)
theorem sag_axis {s : Sf} (h : Mild s) : sagZ s ⟨0, 0, false⟩ = ⟨0, 0, false⟩ := by
  obtain ⟨⟨hc, c1, c2⟩, hk, h4, h6⟩ := h
  have bc := right_bd hc
  have hone : oneI = ⟨65536, 65536, false⟩ := by kernel_rfl
  have hsc : Small s.curve := ⟨hc, by omega, by omega⟩
  obtain ⟨l, g, e1, e2, e3, e4, e5, e6⟩ := encl_sqr hsc (p := s.curve.lo) ⟨by omega, by omega⟩
  have hg : g ≤ 1025 := by
    have hm := sq_between (l := s.curve.lo) (u := s.curve.lo) (h := s.curve.hi) (by omega) (by omega)
    have b1 := mul_bd (a := s.curve.lo) (b := s.curve.lo) (A := 8192) (B := 8192) (by omega) (by omega)
    have b2 := mul_bd (a := s.curve.hi) (b := s.curve.hi) (A := 8192) (B := 8192) (by omega) (by omega)
    have hgg : g = (ivSqr s.curve).hi := by rw [e1]
    unfold ivSqr ivOut at hgg
    rw [if_pos hc] at hgg
    split at hgg
    · rcases of_cases (Int.fdiv 0 65536) (-((-max (s.curve.lo * s.curve.lo) (s.curve.hi * s.curve.hi)).fdiv 65536)) with ⟨e, -⟩ | ⟨e, -⟩
      · rw [e] at hgg
        simp only [fdiv_one] at hgg
        omega
      · rw [e] at hgg
        have : g = 0 := hgg
        omega
    · rcases of_cases ((min (s.curve.lo * s.curve.lo) (s.curve.hi * s.curve.hi)).fdiv 65536) (-((-max (s.curve.lo * s.curve.lo) (s.curve.hi * s.curve.hi)).fdiv 65536)) with ⟨e, -⟩ | ⟨e, -⟩
      · rw [e] at hgg
        simp only [fdiv_one] at hgg
        omega
      · rw [e] at hgg
        have : g = 0 := hgg
        omega
  have hs2 : Small (ivSqr s.curve) := by rw [e1]; exact ⟨right_of.2 (by omega), by dsimp only; omega, by dsimp only; omega⟩
  have bk := small_bd hk
  obtain ⟨l2, g2, f1, f2, f3, f4, -, -⟩ := encl_mul hk hs2 (p := s.conic.lo) (q := (ivSqr s.curve).lo) ⟨by omega, by omega⟩ ⟨by omega, by rw [e1]; exact e4⟩
  have hkc : ivRight (ivMul s.conic (ivSqr s.curve)) = true := by rw [f1]; exact right_of.2 (by omega)
  have q1 : sagQ s ⟨0, 0, false⟩ = ⟨65536, 65536, false⟩ := by
    unfold sagQ
    rw [mul_zero hkc, hone]
    kernel_rfl
  have z0 : sagZ0 s ⟨0, 0, false⟩ = ⟨0, 0, false⟩ := by
    unfold sagZ0
    rw [q1, mul_zero hc, hone]
    kernel_rfl
  have t2 : ivTimes ⟨65536, 65536, false⟩ 2 = ⟨131072, 131072, false⟩ := by kernel_rfl
  have m0 : ivRight (sagM0 s ⟨0, 0, false⟩) = true ∧ -8192 ≤ (sagM0 s ⟨0, 0, false⟩).lo ∧ (sagM0 s ⟨0, 0, false⟩).hi ≤ 8192 := by
    have d1 : (s.curve.lo * 65536).fdiv 131072 = s.curve.lo * 65536 / 131072 := Int.fdiv_eq_ediv_of_nonneg _ (by omega)
    have d2 : (-(s.curve.lo * 65536)).fdiv 131072 = -(s.curve.lo * 65536) / 131072 := Int.fdiv_eq_ediv_of_nonneg _ (by omega)
    have d3 : (s.curve.hi * 65536).fdiv 131072 = s.curve.hi * 65536 / 131072 := Int.fdiv_eq_ediv_of_nonneg _ (by omega)
    have d4 : (-(s.curve.hi * 65536)).fdiv 131072 = -(s.curve.hi * 65536) / 131072 := Int.fdiv_eq_ediv_of_nonneg _ (by omega)
    unfold sagM0
    rw [q1, t2, div_yes (both_iff.2 ⟨hc, by decide⟩) (by unfold Off; decide) (by unfold qF qC; dsimp only; rw [d1, d2, d3, d4]; omega)]
    unfold qF qC min4 max4
    dsimp only
    rw [d1, d2, d3, d4, of_yes (by omega)]
    exact ⟨right_of.2 (by omega), by dsimp only; omega, by dsimp only; omega⟩
  have u0 : sagU ⟨0, 0, false⟩ = ⟨0, 0, false⟩ := by kernel_rfl
  have p0 : ivPoint 0 = ⟨0, 0, false⟩ := by kernel_rfl
  have a00 : ivAdd ⟨0, 0, false⟩ ⟨0, 0, false⟩ = ⟨0, 0, false⟩ := by kernel_rfl
  have m00 : ivMul ⟨0, 0, false⟩ ⟨0, 0, false⟩ = ⟨0, 0, false⟩ := by kernel_rfl
  have z_add : ∀ a, ivRight a = true → ivAdd ⟨0, 0, false⟩ a = a := fun a ha => by rw [add_comm', add_zero ha]
  have hh : horner (sagL s) ⟨0, 0, false⟩ = ⟨0, 0, false⟩ := by
    unfold sagL
    simp only [horner]
    rw [h6.1, if_pos rfl, mul_zero h6.1, z_add _ h4.1, mul_zero h4.1, p0, a00, m00, a00]
  have hsl : horner (slope (sagL s)) ⟨0, 0, false⟩ = ⟨0, 0, false⟩ := by
    have e : slope (sagL s) = [ivTimes (ivPoint 0) 1, ivTimes s.a4 2, ivTimes s.a6 3] := rfl
    have t1 : ivTimes ⟨0, 0, false⟩ 1 = ⟨0, 0, false⟩ := by kernel_rfl
    rw [e]
    simp only [horner]
    have r4 := times_small h4 (k := 2) (by decide) (by decide)
    have r6 := times_small h6 (k := 3) (by decide) (by decide)
    rw [r6, if_pos rfl, mul_zero r6, z_add _ r4, mul_zero r4, p0, t1, a00]
  have d0 : ivDiv ⟨0, 0, false⟩ (ivWhole 1000) = ⟨0, 0, false⟩ := by kernel_rfl
  have hz : sagZt s ⟨0, 0, false⟩ = ⟨0, 0, false⟩ := by
    unfold sagZt
    rw [z0, u0, hh, a00]
    split <;> rfl
  have hm : ivRight (sagMt s ⟨0, 0, false⟩) = true := by
    unfold sagMt
    rw [u0, hsl, d0, add_zero m0.1]
    split <;> exact m0.1
  unfold sagZ sagOk
  rw [hz, hm]
  rfl

/-! ### Balls and bowls -/
end Go.Proofs.Ytggohceeeggnmaa

