/-
  The plain saying of chapter 8: whole numbers as pairs; what the statements of the chapter lean on.
-/
import Derived.Test.YthhipepdkpoomaaDoorGauss
namespace Go.Proofs.YthhipepdkpoomaaDoor
set_option linter.unusedVariables false
open Go.ChangeShapes Go.WideShapes Go.ChangeAt Go.RowKit

set_option maxHeartbeats 4000000 in
theorem complex_c (p : Pt) (W : World) :
    Calls Tryd.prog 12 #[ptV p] W fun e w' => e = .returned (cxP p) ∧ More W w' := by
  obtain ⟨x, y⟩ := p
  go_enter Tryd.func12, Tryd.ntmps12
  go_wp2_with fail
  go_returns
  exact ⟨rfl, (by repeat (first | exact More.refl _ | refine More.alloc ?_ _ | refine More.more ?_ _ | refine More.drew ?_ | refine More.drewN ?_ _))⟩

theorem of_at {x : Nat} (hx : OkW x) (h1 : inLo x = true) (h2 : inHi x = true) : ∃ n : Int, (∀ w, (convert 45 3 (.float .f64 x)).run Tryd.prog w = .ok (.int .i64 n) w) ∧ (Ieee.double.order (ww n false) x == some .eq) = wp x := by
  obtain ⟨n, -, -, h3, h4, -⟩ := in_facts hx h1 h2
  refine ⟨n, fun w => run_convert_float_int w _ _ .f64 .i64 _ _ (by kernel_rfl) (by kernel_rfl) h3, ?_⟩
  rw [h4]
  unfold wp
  rw [h1, h2]
  rfl

def worst4 (x y : Int) : Int := max (max (max (max 0 (nrm x y)) (nrm (x + 1) y)) (nrm x (y + 1))) (nrm (x + 1) (y + 1))
theorem worst_far (x y : Int) : worst4 x y = farI x y := by
  unfold worst4 farI nrm
  have a := Int.natAbs_mul_self (a := x)
  have b := Int.natAbs_mul_self (a := y)
  omega

end Go.Proofs.YthhipepdkpoomaaDoor

