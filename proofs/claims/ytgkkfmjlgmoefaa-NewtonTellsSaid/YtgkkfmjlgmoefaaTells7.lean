/-
  NewtonTells' own: the closure over a sum of powers and its slope.
-/
import Derived.Test.YtgkkfmjlgmoefaaSolve7
import Derived.Test.YtgkkfmjlgmoefaaLaw7
import Derived.Test.YtgkkfmjlgmoefaaAsks7
namespace Go.Proofs.Ytgkkfmjlgmoefaa
set_option linter.unusedVariables false
open Go.ChangeShapes Go.WideShapes Go.ChangeAt Go.RowKit

theorem solve_tells (l : List Iv) (v u : Value) (t : Iv) (most : Int) (bp bs : Nat) (w : World) (hp : w.cell? ⟨bp, 0, none⟩ = some v) (hs : w.cell? ⟨bs, 0, none⟩ = some u) (h : Row w v l) (k : Row w u (slope l)) (hl : l.length ≤ 1000000) :
    Calls Try.prog 28 #[.func (.func 35) #[] #[.pointer (some ⟨bp, 0, none⟩), .pointer (some ⟨bs, 0, none⟩)], ivV t, .int .i64 most] w fun e w' =>
      e = .returned (.tuple #[ivV (nSolve (polyF l) t most).1, .int .i64 (nSolve (polyF l) t most).2]) ∧ More w w' :=
  solve_pure (polyF l) 35 _ (enters_of Try.func35 (by kernel_rfl) rfl) t most w
    (fun W x hm => tellsf_c W x bp bs (cell_of_more hm hp) (cell_of_more hm hs) (h.up hm) (k.up hm) hl (by rw [slope_length]; omega))
theorem rsolve_form {W : World} {l : List Iv} (ad : Option Addr) (n c : Nat) (t : Iv) (most : Int) (h : Row W (.slice ad n c) l) (hl : l.length ≤ 1000000) :
    Calls Try.prog 37 #[fnV ⟨ad, n, c⟩, ivV t, .int .i64 most] W fun e w' => e = .returned (.tuple #[ivV (nSolve (polyF l) t most).1, .int .i64 (nSolve (polyF l) t most).2]) ∧ More W w' :=
  rsolve_c W ⟨ad, n, c⟩ t most h hl
end Go.Proofs.Ytgkkfmjlgmoefaa

