/-
  The contracts of package dec: each call answers what the plain decimals of chapter 9 say.
  The contracts of package dec, the second part: intervals, order.
-/
import Derived.Test.YtggohceeeggnmaaGreatGa
import Derived.Test.YtggohceeeggnmaaGreatGd
import Derived.Test.YtggohceeeggnmaaGreatGc

namespace Go.Proofs.YtggohceeeggnmaaGreat
set_option linter.unusedVariables false
open Go.ChangeShapes Go.WideShapes Go.ChangeAt Go.RowKit

abbrev decV (d : Dec) : Value := .agg #[.int .i64 d.c, .int .i64 d.s]
@[go_sem] theorem run_dec_c (a : Dec) (w : World) : (Instr.field 63 (decV a) 0).run Tryz.prog w = .ok (.int .i64 a.c) w := by kernel_rfl
@[go_sem] theorem run_dec_s (a : Dec) (w : World) : (Instr.field 63 (decV a) 1).run Tryz.prog w = .ok (.int .i64 a.s) w := by kernel_rfl

theorem decRight_fine {c s : Int} (h1 : -100000000000 ≤ c) (h2 : c ≤ 100000000000) (h3 : 0 ≤ s) (h4 : s ≤ 6) : decRight ⟨c, s⟩ = (decide (s = 0) || !(c.tmod 10 == 0)) := by simp [decRight, h1, h2, h3, h4]

/-- Ten to the n. -/
def p10 (n : Nat) : Int := 10 ^ n
theorem p10_next (n : Nat) : p10 (n + 1) = p10 n * 10 := Int.pow_succ ..
theorem p10_bd (n : Nat) (h : n ≤ 6) : 1 ≤ p10 n ∧ p10 n ≤ 1000000 := by
  have : n = 0 ∨ n = 1 ∨ n = 2 ∨ n = 3 ∨ n = 4 ∨ n = 5 ∨ n = 6 := by omega
  rcases this with rfl | rfl | rfl | rfl | rfl | rfl | rfl <;> decide

end Go.Proofs.YtggohceeeggnmaaGreat

namespace Go.Proofs.YtggohceeeggnmaaGreat
set_option linter.unusedVariables false
open Go.ChangeShapes Go.WideShapes Go.ChangeAt Go.RowKit

def decIv (d : Dec) : Iv := if decRight d = true then ivOf ((d.c * 65536).fdiv (p10 d.s.toNat)) (-((-(d.c * 65536)).fdiv (p10 d.s.toNat))) else ivNone
def decLess (a b : Dec) : Bool := decRight a && decRight b && decide (a.c * p10 b.s.toNat < b.c * p10 a.s.toNat)

theorem fdiv_le (a b : Int) (m : Int) (hb : 1 ≤ b) (h0 : -m ≤ a) (h1 : a ≤ m) : -m ≤ a.fdiv b ∧ a.fdiv b ≤ m := by
  rw [Int.fdiv_eq_ediv_of_nonneg a (by omega)]
  have e := Int.mul_ediv_add_emod a b
  have r0 := Int.emod_nonneg a (show b ≠ 0 by omega)
  have r1 := Int.emod_lt_of_pos a (show 0 < b by omega)
  generalize a / b = q at *
  generalize a % b = r at *
  have hm : 0 ≤ m := by omega
  constructor
  · apply Classical.byContradiction
    intro hc
    have h2 : q + 1 ≤ -m := by omega
    have h3 : b * q ≤ b * (-m - 1) := Int.mul_le_mul_of_nonneg_left (by omega) (by omega)
    have h4 : b * (-m - 1) = -(b * m) - b := by grind
    have h5 : 1 * m ≤ b * m := Int.mul_le_mul_of_nonneg_right hb hm
    omega
  · apply Classical.byContradiction
    intro hc
    have h3 : b * (m + 1) ≤ b * q := Int.mul_le_mul_of_nonneg_left (by omega) (by omega)
    have h4 : b * (m + 1) = b * m + b := by grind
    have h5 : 1 * m ≤ b * m := Int.mul_le_mul_of_nonneg_right hb hm
    omega
theorem cmul_bd (c p : Int) (h0 : -100000000000 ≤ c) (h1 : c ≤ 100000000000) (hp : 1 ≤ p) (hq : p ≤ 1000000) : -100000000000000000 ≤ c * p ∧ c * p ≤ 100000000000000000 := by
  have e1 : c * p ≤ 100000000000 * p := Int.mul_le_mul_of_nonneg_right h1 (by omega)
  have e2 : -100000000000 * p ≤ c * p := Int.mul_le_mul_of_nonneg_right h0 (by omega)
  omega

end Go.Proofs.YtggohceeeggnmaaGreat
