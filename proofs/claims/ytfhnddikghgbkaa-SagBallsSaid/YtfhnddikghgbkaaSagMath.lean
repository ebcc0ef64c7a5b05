/-
  How deep a face is, in plain numbers: of less it is less; on the axis it is nothing; turned about.
-/
import Derived.Test.YtfhnddikghgbkaaSysMath
import Derived.Test.YtfhnddikghgbkaaGb
import Derived.Test.YtfhnddikghgbkaaGc
namespace Go.Proofs.Ytfhnddikghgbkaa
set_option linter.unusedVariables false

def sagQ (s : Sf) (r : Iv) : Iv := ivRoot (ivSub oneI (ivMul (ivMul s.conic (ivSqr s.curve)) r))
def sagZ0 (s : Sf) (r : Iv) : Iv := ivDiv (ivMul s.curve r) (ivAdd oneI (sagQ s r))
def sagM0 (s : Sf) (r : Iv) : Iv := ivDiv s.curve (ivTimes (sagQ s r) 2)
def sagU (r : Iv) : Iv := ivDiv r (ivWhole 1000)
def sagL (s : Sf) : List Iv := [ivPoint 0, ivPoint 0, s.a4, s.a6]
def sagZt (s : Sf) (r : Iv) : Iv := if s.bent = true then ivAdd (sagZ0 s r) (horner (sagL s) (sagU r)) else sagZ0 s r
def sagMt (s : Sf) (r : Iv) : Iv := if s.bent = true then ivAdd (sagM0 s r) (ivDiv (horner (slope (sagL s)) (sagU r)) (ivWhole 1000)) else sagM0 s r
def sagOk (s : Sf) (r : Iv) : Bool := ivRight (sagZt s r) && ivRight (sagMt s r)
def sagZ (s : Sf) (r : Iv) : Iv := if sagOk s r = true then sagZt s r else ivNone
def sagM (s : Sf) (r : Iv) : Iv := if sagOk s r = true then sagMt s r else ivNone

/-! ### Of less -/
/-! ### Turned about -/
/-! ### On the axis -/
/-! ### Balls and bowls -/
def ballS (c : Iv) (k : Iv) : Sf := ⟨false, false, c, k, ⟨0, 0, false⟩, ⟨0, 0, false⟩, ⟨0, 0, false⟩, ⟨6553600, 6553600, false⟩, ⟨65536, 65536, false⟩⟩
def ballOk (m n : Int) (hollow : Bool) : Bool :=
  let c := ivDiv (ivWhole 1) (ivWhole (m * m + n * n))
  let z := sagZ (ballS (if hollow then ivNeg c else c) ⟨65536, 65536, false⟩) (ivWhole ((m * m - n * n) * (m * m - n * n)))
  ivHas z ((if hollow then -(m * m + n * n - 2 * m * n) else m * m + n * n - 2 * m * n) * 65536)
def bowlOk (m n k : Int) (hollow : Bool) : Bool :=
  let c := ivPoint (k * 512)
  let s := ballS (if hollow then ivNeg c else c) ⟨0, 0, false⟩
  let r := ivWhole ((m * m - n * n) * (m * m - n * n))
  let j := if hollow then -k else k
  ivEq (sagZ s r) (ivPoint ((m * m - n * n) * (m * m - n * n) * j * 256)) && ivEq (sagM s r) (ivPoint (j * 256))
theorem ball_all : ∀ m : Fin 3, ∀ n : Fin 3, n.val + 1 < m.val + 2 → ∀ h : Bool, ballOk (2 + m.val) (1 + n.val) h = true := by decide +kernel
theorem bowl_all : ∀ m : Fin 3, ∀ n : Fin 3, n.val + 1 < m.val + 2 → ∀ k : Fin 20, ∀ h : Bool, bowlOk (2 + m.val) (1 + n.val) (1 + k.val) h = true := by decide +kernel
theorem ball_has {m n : Int} (h0 : 2 ≤ m) (h1 : m ≤ 4) (h2 : 1 ≤ n) (h3 : n < m) (h : Bool) : ballOk m n h = true := by
  have := ball_all ⟨(m - 2).toNat, by omega⟩ ⟨(n - 1).toNat, by omega⟩ (by dsimp only; omega) h
  dsimp only at this
  rwa [show (2 : Int) + ((m - 2).toNat : Int) = m by omega, show (1 : Int) + ((n - 1).toNat : Int) = n by omega] at this
theorem bowl_is {m n k : Int} (h0 : 2 ≤ m) (h1 : m ≤ 4) (h2 : 1 ≤ n) (h3 : n < m) (k0 : 1 ≤ k) (k1 : k ≤ 20) (h : Bool) : bowlOk m n k h = true := by
  have := bowl_all ⟨(m - 2).toNat, by omega⟩ ⟨(n - 1).toNat, by omega⟩ (by dsimp only; omega) ⟨(k - 1).toNat, by omega⟩ h
  dsimp only at this
  rwa [show (2 : Int) + ((m - 2).toNat : Int) = m by omega, show (1 : Int) + ((n - 1).toNat : Int) = n by omega, show (1 : Int) + ((k - 1).toNat : Int) = k by omega] at this
end Go.Proofs.Ytfhnddikghgbkaa

