/-
  Where a function is nothing, in plain numbers: what is told of a function that encloses, and where it is asked.
-/
import Derived.Test.YtggohceeeggnmaaGb
namespace Go.Proofs.Ytggohceeeggnmaa
set_option linter.unusedVariables false

instance decEqIv : DecidableEq Iv := fun a b => decidable_of_iff (a.lo = b.lo ∧ a.hi = b.hi ∧ a.no = b.no) ⟨fun ⟨h1, h2, h3⟩ => by cases a; cases b; simp_all, fun h => by subst h; exact ⟨rfl, rfl, rfl⟩⟩

/-- The answer of the function, and of its slope. -/
abbrev Enc := Iv → Iv × Iv
section
variable {F : Enc} {k : Nat} {y : Bool} {x : Iv}
end
end Go.Proofs.Ytggohceeeggnmaa

