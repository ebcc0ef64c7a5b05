/-
  The contracts of package dec: each call answers what the plain decimals of chapter 9 say.
-/
import Derived.Test.YtggohceeeggnmaaGa
import Derived.Test.YtggohceeeggnmaaGd
import Derived.Test.YtggohceeeggnmaaGc

namespace Go.Proofs.Ytggohceeeggnmaa
set_option linter.unusedVariables false
open Go.ChangeShapes Go.WideShapes Go.ChangeAt Go.RowKit

abbrev decV (d : Dec) : Value := .agg #[.int .i64 d.c, .int .i64 d.s]
@[go_sem] theorem run_dec_c (a : Dec) (w : World) : (Instr.field 76 (decV a) 0).run Try.prog w = .ok (.int .i64 a.c) w := by kernel_rfl
@[go_sem] theorem run_dec_s (a : Dec) (w : World) : (Instr.field 76 (decV a) 1).run Try.prog w = .ok (.int .i64 a.s) w := by kernel_rfl

end Go.Proofs.Ytggohceeeggnmaa
