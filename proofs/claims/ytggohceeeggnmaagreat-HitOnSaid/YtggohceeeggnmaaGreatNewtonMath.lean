/-
  Where a function is nothing, in plain numbers: what is told of a function that encloses, and where it is asked.
-/
import Derived.Test.YtggohceeeggnmaaGreatGb
namespace Go.Proofs.YtggohceeeggnmaaGreat
set_option linter.unusedVariables false

instance decEqIv : DecidableEq Iv := fun a b => decidable_of_iff (a.lo = b.lo ∧ a.hi = b.hi ∧ a.no = b.no) ⟨fun ⟨h1, h2, h3⟩ => by cases a; cases b; simp_all, fun h => by subst h; exact ⟨rfl, rfl, rfl⟩⟩

/-- The answer of the function, and of its slope. -/
abbrev Enc := Iv → Iv × Iv
def nNext (F : Enc) (t : Iv) : Iv := ivSub (ivPoint (ivMid t)) (ivDiv (F (ivPoint (ivMid t))).1 (F t).2)
def nOut (F : Enc) (t : Iv) : Bool := ivRight (F t).1 && !ivHas (F t).1 0
def nHalf (F : Enc) (t : Iv) : Iv := if nOut F (ivSplit t).1 then (ivSplit t).2 else if nOut F (ivSplit t).2 then (ivSplit t).1 else ivNone
def nHalfAsks (F : Enc) (t : Iv) : List Iv := if nOut F (ivSplit t).1 then [(ivSplit t).1] else [(ivSplit t).1, (ivSplit t).2]
def nEnd (sure : Bool) (t : Iv) : Iv × Int := if sure then (t, 1) else (ivNone, 0)
def nSure (F : Enc) (t : Iv) : Bool := decide (t.lo < (nNext F t).lo) && decide ((nNext F t).hi < t.hi)
def nLoop (F : Enc) : Nat → Bool → Iv → Iv × Int
  | 0, sure, t => nEnd sure t
  | k + 1, sure, t =>
    if ivRight (nNext F t) then
      (if ivRight (ivMeet t (nNext F t)) then (if ivMeet t (nNext F t) = t then nEnd (sure || nSure F t) t else nLoop F k (sure || nSure F t) (ivMeet t (nNext F t))) else (ivNone, 2))
    else if ivRight (nHalf F t) then nLoop F k sure (nHalf F t) else (ivNone, 0)
def nLoopAsks (F : Enc) : Nat → Iv → List Iv
  | 0, _ => []
  | k + 1, t =>
    [ivPoint (ivMid t), t] ++
    if ivRight (nNext F t) then (if ivRight (ivMeet t (nNext F t)) then (if ivMeet t (nNext F t) = t then [] else nLoopAsks F k (ivMeet t (nNext F t))) else [])
    else nHalfAsks F t ++ if ivRight (nHalf F t) then nLoopAsks F k (nHalf F t) else []
section
variable {F : Enc} {k : Nat} {y : Bool} {x : Iv}
theorem loop_none (hn : ivRight (nNext F x) = false) (hh : ivRight (nHalf F x) = false) : nLoop F (k + 1) y x = (ivNone, 0) ∧ nLoopAsks F (k + 1) x = [ivPoint (ivMid x), x] ++ nHalfAsks F x := by
  rw [nLoop, nLoopAsks, hn, hh]
  simp
theorem loop_half (hn : ivRight (nNext F x) = false) (hh : ivRight (nHalf F x) = true) : nLoop F (k + 1) y x = nLoop F k y (nHalf F x) ∧ nLoopAsks F (k + 1) x = [ivPoint (ivMid x), x] ++ (nHalfAsks F x ++ nLoopAsks F k (nHalf F x)) := by
  rw [nLoop, nLoopAsks, hn, hh]
  simp
theorem loop_no (hn : ivRight (nNext F x) = true) (hu : ivRight (ivMeet x (nNext F x)) = false) : nLoop F (k + 1) y x = (ivNone, 2) ∧ nLoopAsks F (k + 1) x = [ivPoint (ivMid x), x] := by
  rw [nLoop, nLoopAsks, hn, hu]
  simp
theorem loop_end (hn : ivRight (nNext F x) = true) (hu : ivRight (ivMeet x (nNext F x)) = true) (he : ivMeet x (nNext F x) = x) : nLoop F (k + 1) y x = nEnd (y || nSure F x) x ∧ nLoopAsks F (k + 1) x = [ivPoint (ivMid x), x] := by
  rw [nLoop, nLoopAsks, hn, hu, if_pos he]
  simp [he]
theorem loop_on (hn : ivRight (nNext F x) = true) (hu : ivRight (ivMeet x (nNext F x)) = true) (he : ivMeet x (nNext F x) ≠ x) :
    nLoop F (k + 1) y x = nLoop F k (y || nSure F x) (ivMeet x (nNext F x)) ∧ nLoopAsks F (k + 1) x = [ivPoint (ivMid x), x] ++ nLoopAsks F k (ivMeet x (nNext F x)) := by
  rw [nLoop, nLoopAsks, hn, hu, if_neg he]
  simp [he]
theorem sure_yes (c1 : x.lo < (nNext F x).lo) (c2 : (nNext F x).hi < x.hi) : (y || nSure F x) = true := by
  unfold nSure; simp [c1, c2]
theorem sure_no1 (c1 : (nNext F x).lo ≤ x.lo) : (y || nSure F x) = y := by
  unfold nSure; simp [Int.not_lt.2 c1]
theorem sure_no2 (c2 : x.hi ≤ (nNext F x).hi) : (y || nSure F x) = y := by
  unfold nSure; simp [Int.not_lt.2 c2]
theorem half_yes (h : nOut F (ivSplit x).1 = true) : nHalf F x = (ivSplit x).2 := by unfold nHalf; rw [if_pos h]
theorem half_no (h : nOut F (ivSplit x).1 = false) (k : nOut F (ivSplit x).2 = true) : nHalf F x = (ivSplit x).1 := by unfold nHalf; rw [if_neg (by rw [h]; simp), if_pos k]
theorem half_none (h : nOut F (ivSplit x).1 = false) (k : nOut F (ivSplit x).2 = false) : nHalf F x = ivNone := by unfold nHalf; rw [if_neg (by rw [h]; simp), if_neg (by rw [k]; simp)]
end
def nMost (most : Int) : Nat := (min (max most 0) 40).toNat
def nSolve (F : Enc) (t : Iv) (most : Int) : Iv × Int := if ivRight t then nLoop F (nMost most) false t else (ivNone, 0)
def nAsks (F : Enc) (t : Iv) (most : Int) : List Iv := if ivRight t then nLoopAsks F (nMost most) t else []
end Go.Proofs.YtggohceeeggnmaaGreat

