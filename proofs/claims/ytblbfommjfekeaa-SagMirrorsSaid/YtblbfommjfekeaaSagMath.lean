/-
  How deep a face is, in plain numbers: of less it is less; on the axis it is nothing; turned about.
-/
import Derived.Test.YtblbfommjfekeaaSysMath
import Derived.Test.YtblbfommjfekeaaGb
import Derived.Test.YtblbfommjfekeaaGc
namespace Go.Proofs.Ytblbfommjfekeaa
set_option linter.unusedVariables false

def sagQ (s : Sf) (r : Iv) : Iv := ivRoot (ivSub oneI (ivMul (ivMul s.conic (ivSqr s.curve)) r))
def sagZ0 (s : Sf) (r : Iv) : Iv := ivDiv (ivMul s.curve r) (ivAdd oneI (sagQ s r))
def sagM0 (s : Sf) (r : Iv) : Iv := ivDiv s.curve (ivTimes (sagQ s r) 2)
def sagU (r : Iv) : Iv := ivDiv r (ivWhole 1000)
def sagL (s : Sf) : List Iv := [ivPoint 0, ivPoint 0, s.a4, s.a6]
def sagZt (s : Sf) (r : Iv) : Iv := if s.bent = true then ivAdd (sagZ0 s r) (horner (sagL s) (sagU r)) else sagZ0 s r
def sagMt (s : Sf) (r : Iv) : Iv := if s.bent = true then ivAdd (sagM0 s r) (ivDiv (horner (slope (sagL s)) (sagU r)) (ivWhole 1000)) else sagM0 s r
def sagOk (s : Sf) (r : Iv) : Bool := ivRight (sagZt s r) && ivRight (sagMt s r)
def sagZ (s : Sf) (r : Iv) : Iv := if sagOk s r = true then sagZt s r else ivNone
def sagM (s : Sf) (r : Iv) : Iv := if sagOk s r = true then sagMt s r else ivNone

/-! ### Of less -/
/-! ### Turned about -/
theorem right_neg_eq (a : Iv) : ivRight (ivNeg a) = ivRight a := by
  cases h : ivRight a
  · rw [neg_bad h]; rfl
  · exact right_neg h
theorem negMul (a b : Iv) : ivMul (ivNeg a) b = ivNeg (ivMul a b) := by
  cases ha : ivRight a
  · have : ivMul a b = ivNone := by
      unfold ivMul ivBoth
      rw [ha]
      rfl
    rw [neg_bad ha, mul_none, this]
    rfl
  cases hb : ivRight b
  · have h1 : ∀ c, ivMul c b = ivNone := fun c => by
      unfold ivMul ivBoth
      rw [hb, Bool.and_false]
      rfl
    rw [h1, h1]
    rfl
  exact neg_mul' ha hb
theorem negDiv (a b : Iv) : ivDiv (ivNeg a) b = ivNeg (ivDiv a b) := by
  cases ha : ivRight a
  · have h1 : ∀ c, ivRight c = false → ivDiv c b = ivNone := fun c hc => by
      unfold ivDiv ivBoth
      rw [hc]
      rfl
    rw [neg_bad ha, h1 _ rfl, h1 _ ha]
    rfl
  exact div_neg ha
theorem negTimes (a : Iv) (k : Int) : ivTimes (ivNeg a) k = ivNeg (ivTimes a k) := by
  cases ha : ivRight a
  · have h1 : ∀ c, ivRight c = false → ivTimes c k = ivNone := fun c hc => by
      unfold ivTimes
      rw [hc]
      rfl
    rw [neg_bad ha, h1 _ rfl, h1 _ ha]
    rfl
  unfold ivTimes
  rw [right_neg ha, ha, neg_form ha]
  cases hk : isIn k
  · rfl
  · simp only [Bool.and_self, if_true]
    rw [neg_of]
    rw [Int.mul_neg, Int.mul_neg]
    congr 1 <;> omega
theorem horner_neg (x : Iv) : ∀ l : List Iv, horner (l.map ivNeg) x = ivNeg (horner l x)
  | [] => by rfl
  | [a] => by
    show (if ivRight (ivNeg a) then ivNeg a else ivNone) = ivNeg (if ivRight a then a else ivNone)
    rw [right_neg_eq]
    cases h : ivRight a <;> rfl
  | a :: b :: l => by
    have ih := horner_neg x (b :: l)
    show ivAdd (ivMul (horner ((b :: l).map ivNeg) x) x) (ivNeg a) = ivNeg (ivAdd (ivMul (horner (b :: l) x) x) a)
    rw [ih, negMul, add_neg]
theorem slope_neg (l : List Iv) : slope (l.map ivNeg) = (slope l).map ivNeg := by
  unfold slope slopeTo
  rw [List.length_map, List.map_map]
  refine List.map_congr_left fun i _ => ?_
  show ivTimes ((l.map ivNeg).getD (i + 1) ivNone) _ = ivNeg (ivTimes (l.getD (i + 1) ivNone) _)
  rw [← negTimes]
  congr 1
  simp only [List.getD_eq_getElem?_getD, List.getElem?_map]
  cases l[i + 1]? <;> rfl
def negS (s : Sf) : Sf := { s with curve := ivNeg s.curve, a4 := ivNeg s.a4, a6 := ivNeg s.a6 }
theorem sagL_neg (s : Sf) : sagL (negS s) = (sagL s).map ivNeg := by
  have e : ivPoint 0 = ivNeg (ivPoint 0) := by kernel_rfl
  show [ivPoint 0, ivPoint 0, ivNeg s.a4, ivNeg s.a6] = [ivNeg (ivPoint 0), ivNeg (ivPoint 0), ivNeg s.a4, ivNeg s.a6]
  rw [← e]
theorem sagQ_neg {s : Sf} (h : ivRight s.curve = true) (r : Iv) : sagQ (negS s) r = sagQ s r := by
  unfold sagQ negS
  dsimp only
  rw [sqr_neg h]
theorem sagZt_neg {s : Sf} (h : ivRight s.curve = true) (r : Iv) : sagZt (negS s) r = ivNeg (sagZt s r) := by
  have h0 : sagZ0 (negS s) r = ivNeg (sagZ0 s r) := by
    unfold sagZ0
    rw [sagQ_neg h]
    show ivDiv (ivMul (ivNeg s.curve) r) _ = _
    rw [negMul, negDiv]
  unfold sagZt
  rw [h0, sagL_neg, horner_neg, add_neg]
  show (if s.bent = true then _ else _) = _
  split <;> rfl
theorem sagMt_neg {s : Sf} (h : ivRight s.curve = true) (r : Iv) : sagMt (negS s) r = ivNeg (sagMt s r) := by
  have h0 : sagM0 (negS s) r = ivNeg (sagM0 s r) := by
    unfold sagM0
    rw [sagQ_neg h]
    show ivDiv (ivNeg s.curve) _ = _
    rw [negDiv]
  unfold sagMt
  rw [h0, sagL_neg, slope_neg, horner_neg, negDiv, add_neg]
  show (if s.bent = true then _ else _) = _
  split <;> rfl
/-- A face of the negated curve and terms is as deep the other way. -/
theorem sag_neg {s : Sf} (h : ivRight s.curve = true) (r : Iv) : sagZ (negS s) r = ivNeg (sagZ s r) ∧ sagM (negS s) r = ivNeg (sagM s r) := by
  unfold sagZ sagM sagOk
  rw [sagZt_neg h, sagMt_neg h, right_neg_eq, right_neg_eq]
  constructor <;> (split <;> rfl)

/-! ### On the axis -/
structure Mild (s : Sf) : Prop where
  curve : ivRight s.curve = true ∧ -8192 ≤ s.curve.lo ∧ s.curve.hi ≤ 8192
  conic : Small s.conic
  a4 : Small s.a4
  a6 : Small s.a6
/-! ### Balls and bowls -/
def ballS (c : Iv) (k : Iv) : Sf := ⟨false, false, c, k, ⟨0, 0, false⟩, ⟨0, 0, false⟩, ⟨0, 0, false⟩, ⟨6553600, 6553600, false⟩, ⟨65536, 65536, false⟩⟩
end Go.Proofs.Ytblbfommjfekeaa

