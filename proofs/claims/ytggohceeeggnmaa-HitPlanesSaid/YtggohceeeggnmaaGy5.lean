/-
  A lens in one light: plain lists.
  How deep a face is, in plain numbers: of less it is less; on the axis it is nothing; turned about.
  Where a function is nothing, in plain numbers: what is told of a function that encloses, and where it is asked.
-/
import Derived.Test.YtggohceeeggnmaaGj
import Derived.Test.YtggohceeeggnmaaGb
import Derived.Test.YtggohceeeggnmaaGg
import Derived.Test.YtggohceeeggnmaaGz5
import Derived.Test.YtggohceeeggnmaaGlass
import Derived.Test.YtggohceeeggnmaaGc

namespace Go.Proofs.Ytggohceeeggnmaa
set_option linter.unusedVariables false
open Go.RowKit

structure Sf where
  stop : Bool
  bent : Bool
  curve : Iv
  conic : Iv
  a4 : Iv
  a6 : Iv
  place : Iv
  open2 : Iv
  ratio : Iv
def oneI : Iv := ivPoint 65536
/-! ### A number is right, or None -/
def ivEq (a b : Iv) : Bool := a.lo == b.lo && (a.hi == b.hi && a.no == b.no)
theorem ivEq_iff {a b : Iv} : ivEq a b = true ↔ a = b := by
  obtain ⟨a1, a2, a3⟩ := a
  obtain ⟨b1, b2, b3⟩ := b
  simp [ivEq, Iv.mk.injEq]
end Go.Proofs.Ytggohceeeggnmaa

namespace Go.Proofs.Ytggohceeeggnmaa
set_option linter.unusedVariables false

def sagQ (s : Sf) (r : Iv) : Iv := ivRoot (ivSub oneI (ivMul (ivMul s.conic (ivSqr s.curve)) r))
def sagZ0 (s : Sf) (r : Iv) : Iv := ivDiv (ivMul s.curve r) (ivAdd oneI (sagQ s r))
def sagM0 (s : Sf) (r : Iv) : Iv := ivDiv s.curve (ivTimes (sagQ s r) 2)
def sagU (r : Iv) : Iv := ivDiv r (ivWhole 1000)
def sagL (s : Sf) : List Iv := [ivPoint 0, ivPoint 0, s.a4, s.a6]
def sagZt (s : Sf) (r : Iv) : Iv := if s.bent = true then ivAdd (sagZ0 s r) (horner (sagL s) (sagU r)) else sagZ0 s r
def sagMt (s : Sf) (r : Iv) : Iv := if s.bent = true then ivAdd (sagM0 s r) (ivDiv (horner (slope (sagL s)) (sagU r)) (ivWhole 1000)) else sagM0 s r
def sagOk (s : Sf) (r : Iv) : Bool := ivRight (sagZt s r) && ivRight (sagMt s r)
def sagZ (s : Sf) (r : Iv) : Iv := if sagOk s r = true then sagZt s r else ivNone
def sagM (s : Sf) (r : Iv) : Iv := if sagOk s r = true then sagMt s r else ivNone

/-! ### Of less -/
/-! ### Turned about -/
/-! ### On the axis -/
/-! ### Balls and bowls -/
end Go.Proofs.Ytggohceeeggnmaa

namespace Go.Proofs.Ytggohceeeggnmaa
set_option linter.unusedVariables false

instance decEqIv : DecidableEq Iv := fun a b => decidable_of_iff (a.lo = b.lo ∧ a.hi = b.hi ∧ a.no = b.no) ⟨fun ⟨h1, h2, h3⟩ => by cases a; cases b; simp_all, fun h => by subst h; exact ⟨rfl, rfl, rfl⟩⟩

/-- The answer of the function, and of its slope. -/
abbrev Enc := Iv → Iv × Iv
def nNext (F : Enc) (t : Iv) : Iv := ivSub (ivPoint (ivMid t)) (ivDiv (F (ivPoint (ivMid t))).1 (F t).2)
def nOut (F : Enc) (t : Iv) : Bool := ivRight (F t).1 && !ivHas (F t).1 0
def nHalf (F : Enc) (t : Iv) : Iv := if nOut F (ivSplit t).1 then (ivSplit t).2 else if nOut F (ivSplit t).2 then (ivSplit t).1 else ivNone
def nHalfAsks (F : Enc) (t : Iv) : List Iv := if nOut F (ivSplit t).1 then [(ivSplit t).1] else [(ivSplit t).1, (ivSplit t).2]
def nEnd (sure : Bool) (t : Iv) : Iv × Int := if sure then (t, 1) else (ivNone, 0)
def nSure (F : Enc) (t : Iv) : Bool := decide (t.lo < (nNext F t).lo) && decide ((nNext F t).hi < t.hi)
def nLoop (F : Enc) : Nat → Bool → Iv → Iv × Int
  | 0, sure, t => nEnd sure t
  | k + 1, sure, t =>
    if ivRight (nNext F t) then
      (if ivRight (ivMeet t (nNext F t)) then (if ivMeet t (nNext F t) = t then nEnd (sure || nSure F t) t else nLoop F k (sure || nSure F t) (ivMeet t (nNext F t))) else (ivNone, 2))
    else if ivRight (nHalf F t) then nLoop F k sure (nHalf F t) else (ivNone, 0)
def nLoopAsks (F : Enc) : Nat → Iv → List Iv
  | 0, _ => []
  | k + 1, t =>
    [ivPoint (ivMid t), t] ++
    if ivRight (nNext F t) then (if ivRight (ivMeet t (nNext F t)) then (if ivMeet t (nNext F t) = t then [] else nLoopAsks F k (ivMeet t (nNext F t))) else [])
    else nHalfAsks F t ++ if ivRight (nHalf F t) then nLoopAsks F k (nHalf F t) else []
section
variable {F : Enc} {k : Nat} {y : Bool} {x : Iv}
theorem loop_none (hn : ivRight (nNext F x) = false) (hh : ivRight (nHalf F x) = false) : nLoop F (k + 1) y x = (ivNone, 0) ∧ nLoopAsks F (k + 1) x = [ivPoint (ivMid x), x] ++ nHalfAsks F x := by
  rw [nLoop, nLoopAsks, hn, hh]
  simp
theorem loop_half (hn : ivRight (nNext F x) = false) (hh : ivRight (nHalf F x) = true) : nLoop F (k + 1) y x = nLoop F k y (nHalf F x) ∧ nLoopAsks F (k + 1) x = [ivPoint (ivMid x), x] ++ (nHalfAsks F x ++ nLoopAsks F k (nHalf F x)) := by
  rw [nLoop, nLoopAsks, hn, hh]
  simp
theorem loop_no (hn : ivRight (nNext F x) = true) (hu : ivRight (ivMeet x (nNext F x)) = false) : nLoop F (k + 1) y x = (ivNone, 2) ∧ nLoopAsks F (k + 1) x = [ivPoint (ivMid x), x] := by
  rw [nLoop, nLoopAsks, hn, hu]
  simp
theorem loop_end (hn : ivRight (nNext F x) = true) (hu : ivRight (ivMeet x (nNext F x)) = true) (he : ivMeet x (nNext F x) = x) : nLoop F (k + 1) y x = nEnd (y || nSure F x) x ∧ nLoopAsks F (k + 1) x = [ivPoint (ivMid x), x] := by
  rw [nLoop, nLoopAsks, hn, hu, if_pos he]
  simp [he]
theorem loop_on (hn : ivRight (nNext F x) = true) (hu : ivRight (ivMeet x (nNext F x)) = true) (he : ivMeet x (nNext F x) ≠ x) :
    nLoop F (k + 1) y x = nLoop F k (y || nSure F x) (ivMeet x (nNext F x)) ∧ nLoopAsks F (k + 1) x = [ivPoint (ivMid x), x] ++ nLoopAsks F k (ivMeet x (nNext F x)) := by
  rw [nLoop, nLoopAsks, hn, hu, if_neg he]
  simp [he]
theorem sure_yes (c1 : x.lo < (nNext F x).lo) (c2 : (nNext F x).hi < x.hi) : (y || nSure F x) = true := by
  unfold nSure; simp [c1, c2]
theorem sure_no1 (c1 : (nNext F x).lo ≤ x.lo) : (y || nSure F x) = y := by
  unfold nSure; simp [Int.not_lt.2 c1]
theorem sure_no2 (c2 : x.hi ≤ (nNext F x).hi) : (y || nSure F x) = y := by
  unfold nSure; simp [Int.not_lt.2 c2]
end
def nMost (most : Int) : Nat := (min (max most 0) 40).toNat
def nSolve (F : Enc) (t : Iv) (most : Int) : Iv × Int := if ivRight t then nLoop F (nMost most) false t else (ivNone, 0)
def nAsks (F : Enc) (t : Iv) (most : Int) : List Iv := if ivRight t then nLoopAsks F (nMost most) t else []
end Go.Proofs.Ytggohceeeggnmaa
