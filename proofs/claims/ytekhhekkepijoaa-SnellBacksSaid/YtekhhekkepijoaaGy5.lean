/-
  A lens in one light: plain lists.
  How deep a face is, in plain numbers: of less it is less; on the axis it is nothing; turned about.
  Where a function is nothing, in plain numbers: what is told of a function that encloses, and where it is asked.
-/
import Derived.Test.YtekhhekkepijoaaGd
import Derived.Test.YtekhhekkepijoaaGb
import Derived.Test.YtekhhekkepijoaaGz5
import Derived.Test.YtekhhekkepijoaaGe
import Derived.Test.YtekhhekkepijoaaGc
import Derived.Test.YtekhhekkepijoaaGa
import Derived.Laws.BytesArg

namespace Go.Proofs.Ytekhhekkepijoaa
set_option linter.unusedVariables false
open Go.RowKit

def oneI : Iv := ivPoint 65536
/-! ### A number is right, or None -/
end Go.Proofs.Ytekhhekkepijoaa

namespace Go.Proofs.Ytekhhekkepijoaa
set_option linter.unusedVariables false

/-! ### Of less -/
theorem lessSelf (a : Iv) : ivLess a a = true := by
  cases h : ivRight a
  · exact lessBad h
  · exact partLess (part_refl h)
theorem less_rights {p x : Iv} (h : ivLess p x = true) (hx : ivRight x = true) : ivRight p = true ∧ ivInside p x = true := by
  unfold ivLess at h
  rw [hx] at h
  have h1 : ivInside p x = true := by simpa using h
  exact ⟨(inside_iff.1 h1).1, h1⟩
/-! ### Turned about -/
theorem right_neg_eq (a : Iv) : ivRight (ivNeg a) = ivRight a := by
  cases h : ivRight a
  · rw [neg_bad h]; rfl
  · exact right_neg h
theorem negMul (a b : Iv) : ivMul (ivNeg a) b = ivNeg (ivMul a b) := by
  cases ha : ivRight a
  · have : ivMul a b = ivNone := by
      unfold ivMul ivBoth
      rw [ha]
      rfl
    rw [neg_bad ha, mul_none, this]
    rfl
  cases hb : ivRight b
  · have h1 : ∀ c, ivMul c b = ivNone := fun c => by
      unfold ivMul ivBoth
      rw [hb, Bool.and_false]
      rfl
    rw [h1, h1]
    rfl
  exact neg_mul' ha hb
/-! ### On the axis -/
/-! ### Balls and bowls -/
end Go.Proofs.Ytekhhekkepijoaa

namespace Go.Proofs.Ytekhhekkepijoaa
set_option linter.unusedVariables false

instance decEqIv : DecidableEq Iv := fun a b => decidable_of_iff (a.lo = b.lo ∧ a.hi = b.hi ∧ a.no = b.no) ⟨fun ⟨h1, h2, h3⟩ => by cases a; cases b; simp_all, fun h => by subst h; exact ⟨rfl, rfl, rfl⟩⟩

/-- The answer of the function, and of its slope. -/
abbrev Enc := Iv → Iv × Iv
section
variable {F : Enc} {k : Nat} {y : Bool} {x : Iv}
end
end Go.Proofs.Ytekhhekkepijoaa
