/-
  Chapter 14's example; equal intervals.
-/
import Derived.Test.YtggohceeeggnmaaGreatSagOf
import Derived.Test.YtggohceeeggnmaaGreatGr5
namespace Go.Proofs.YtggohceeeggnmaaGreat
set_option linter.unusedVariables false
open Go.ChangeShapes Go.WideShapes Go.ChangeAt Go.RowKit

theorem eql_same (x1 x2 : Int) (n : Bool) (w : World) : (binOp .eql 27 (.agg #[.int .i64 x1, .int .i64 x2, .bool n]) (.agg #[.int .i64 x1, .int .i64 x2, .bool n])).run Tryz.prog w = .ok (.bool true) w := by
  have h := eql_iv ⟨x1, x2, n⟩ ⟨x1, x2, n⟩ w
  rw [ivEq_iff.2 rfl] at h
  exact h
theorem neql_same (x1 x2 : Int) (n : Bool) (w : World) : (binOp .neq 27 (.agg #[.int .i64 x1, .int .i64 x2, .bool n]) (.agg #[.int .i64 x1, .int .i64 x2, .bool n])).run Tryz.prog w = .ok (.bool false) w := by
  have h := neql_iv ⟨x1, x2, n⟩ ⟨x1, x2, n⟩ w
  rw [ivEq_iff.2 rfl] at h
  exact h
