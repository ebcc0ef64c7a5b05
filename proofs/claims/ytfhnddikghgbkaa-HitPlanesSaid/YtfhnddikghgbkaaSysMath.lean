/-
  A lens in one light: plain lists.
-/
import Derived.Test.YtfhnddikghgbkaaGj
import Derived.Test.YtfhnddikghgbkaaGb
import Derived.Test.YtfhnddikghgbkaaGg
import Derived.Test.YtfhnddikghgbkaaDec
import Derived.Test.YtfhnddikghgbkaaGlass
namespace Go.Proofs.Ytfhnddikghgbkaa
set_option linter.unusedVariables false
open Go.RowKit

structure Sf where
  stop : Bool
  bent : Bool
  curve : Iv
  conic : Iv
  a4 : Iv
  a6 : Iv
  place : Iv
  open2 : Iv
  ratio : Iv
def oneI : Iv := ivPoint 65536
/-! ### A number is right, or None -/
def ivEq (a b : Iv) : Bool := a.lo == b.lo && (a.hi == b.hi && a.no == b.no)
theorem ivEq_iff {a b : Iv} : ivEq a b = true ↔ a = b := by
  obtain ⟨a1, a2, a3⟩ := a
  obtain ⟨b1, b2, b3⟩ := b
  simp [ivEq, Iv.mk.injEq]
end Go.Proofs.Ytfhnddikghgbkaa

