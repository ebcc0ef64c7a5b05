/-
  How deep a face is, in plain numbers: of less it is less; on the axis it is nothing; turned about.
-/
import Derived.Test.YtggohceeeggnmaaGreatSysMath
import Derived.Test.YtggohceeeggnmaaGreatGb
import Derived.Test.YtggohceeeggnmaaGreatGc
namespace Go.Proofs.YtggohceeeggnmaaGreat
set_option linter.unusedVariables false

def sagQ (s : Sf) (r : Iv) : Iv := ivRoot (ivSub oneI (ivMul (ivMul s.conic (ivSqr s.curve)) r))
def sagZ0 (s : Sf) (r : Iv) : Iv := ivDiv (ivMul s.curve r) (ivAdd oneI (sagQ s r))
def sagM0 (s : Sf) (r : Iv) : Iv := ivDiv s.curve (ivTimes (sagQ s r) 2)
def sagU (r : Iv) : Iv := ivDiv r (ivWhole 1000)
def sagL (s : Sf) : List Iv := [ivPoint 0, ivPoint 0, s.a4, s.a6]
def sagZt (s : Sf) (r : Iv) : Iv := if s.bent = true then ivAdd (sagZ0 s r) (horner (sagL s) (sagU r)) else sagZ0 s r
def sagMt (s : Sf) (r : Iv) : Iv := if s.bent = true then ivAdd (sagM0 s r) (ivDiv (horner (slope (sagL s)) (sagU r)) (ivWhole 1000)) else sagM0 s r
def sagOk (s : Sf) (r : Iv) : Bool := ivRight (sagZt s r) && ivRight (sagMt s r)
def sagZ (s : Sf) (r : Iv) : Iv := if sagOk s r = true then sagZt s r else ivNone
def sagM (s : Sf) (r : Iv) : Iv := if sagOk s r = true then sagMt s r else ivNone

/-! ### Of less -/
/-! ### Turned about -/
/-! ### On the axis -/
structure Mild (s : Sf) : Prop where
  curve : ivRight s.curve = true ∧ -8192 ≤ s.curve.lo ∧ s.curve.hi ≤ 8192
  conic : Small s.conic
  a4 : Small s.a4
  a6 : Small s.a6
/-! ### Balls and bowls -/
end Go.Proofs.YtggohceeeggnmaaGreat

