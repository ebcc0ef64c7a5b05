/-
  The contracts of package dec: each call answers what the plain decimals of chapter 9 say.
-/
import Derived.Test.YtggohceeeggnmaaGreatGa
import Derived.Test.YtggohceeeggnmaaGreatGd
import Derived.Test.YtggohceeeggnmaaGreatGc
namespace Go.Proofs.YtggohceeeggnmaaGreat
set_option linter.unusedVariables false
open Go.ChangeShapes Go.WideShapes Go.ChangeAt Go.RowKit

abbrev decV (d : Dec) : Value := .agg #[.int .i64 d.c, .int .i64 d.s]
@[go_sem] theorem run_dec_c (a : Dec) (w : World) : (Instr.field 63 (decV a) 0).run Tryz.prog w = .ok (.int .i64 a.c) w := by kernel_rfl
@[go_sem] theorem run_dec_s (a : Dec) (w : World) : (Instr.field 63 (decV a) 1).run Tryz.prog w = .ok (.int .i64 a.s) w := by kernel_rfl

theorem decRight_fine {c s : Int} (h1 : -100000000000 ≤ c) (h2 : c ≤ 100000000000) (h3 : 0 ≤ s) (h4 : s ≤ 6) : decRight ⟨c, s⟩ = (decide (s = 0) || !(c.tmod 10 == 0)) := by simp [decRight, h1, h2, h3, h4]

/-- Ten to the n. -/
def p10 (n : Nat) : Int := 10 ^ n
theorem p10_next (n : Nat) : p10 (n + 1) = p10 n * 10 := Int.pow_succ ..
theorem p10_bd (n : Nat) (h : n ≤ 6) : 1 ≤ p10 n ∧ p10 n ≤ 1000000 := by
  have : n = 0 ∨ n = 1 ∨ n = 2 ∨ n = 3 ∨ n = 4 ∨ n = 5 ∨ n = 6 := by omega
  rcases this with rfl | rfl | rfl | rfl | rfl | rfl | rfl <;> decide

end Go.Proofs.YtggohceeeggnmaaGreat

