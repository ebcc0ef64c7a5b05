/-
  The contracts of package num, and of the plain saying of chapter 1.
-/
import Derived.Test.YthnehnabldgagaaDoorRows
import Derived.Test.YthnehnabldgagaaDoorMath
import Derived.WalkKit
import Derived.ProofKit
import Derived.OpenShut
import Derived.Outline
import Derived.Lib.Hide
namespace Go.Proofs.YthnehnabldgagaaDoor
set_option linter.unusedVariables false
open Go.ChangeShapes Go.WideShapes Go.ChangeAt Go.RowKit

theorem ret_int {k : IntKind} {a b : Int} (h : a = b) : Ending.returned (.int k a) = .returned (.int k b) := by rw [h]

set_option maxHeartbeats 4000000 in
theorem floor_c (a b : Int) (ha : -9223372036854775808 ≤ a) (ha' : a ≤ 9223372036854775807) (hn : ¬ (a = -9223372036854775808 ∧ b = -1)) (W : World) :
    Calls Tryd.prog 29 #[.int .i64 a, .int .i64 b] W fun e w' => e = .returned (.int .i64 (a.fdiv b)) ∧ W = w' := by
  have hb := tdiv_bd a b ha ha' hn
  clear hn
  by_cases h0 : b = 0
  · subst h0
    go_enter Tryd.func29, Tryd.ntmps29
    go_wp2_with fail
    go_ret
    exact ⟨ret_int (by simp), rfl⟩
  · have hf := fdiv_of a b h0
    by_cases hr : a.tmod b = 0
    · rw [if_neg (by simp [hr])] at hf
      rw [hf]
      clear hf
      go_enter Tryd.func29, Tryd.ntmps29
      go_wp2_with fail
      go_ret
      exact ⟨rfl, rfl⟩
    · have hb2 := tdiv_bd2 a b ha ha' hr
      have hr2 : 0 ≤ a → ¬ a % b = 0 := fun h => by rw [← Int.tmod_eq_emod_of_nonneg h]; exact hr
      by_cases h1 : a < 0 <;> by_cases h2 : b < 0
      all_goals
        first
        | (rw [if_neg (fun h => h.2 (by omega))] at hf)
        | (rw [if_pos ⟨hr, by omega⟩] at hf)
        rw [hf]
        clear hf
        first
        | (have hr3 := hr2 (by omega); clear hr2)
        | clear hr2
        go_enter Tryd.func29, Tryd.ntmps29
        go_wp2_with fail
        go_ret
        exact ⟨rfl, rfl⟩

set_option maxHeartbeats 4000000 in
theorem in_c (n : Int) (W : World) :
    Calls Tryd.prog 38 #[.int .i64 n] W fun e w' => e = .returned (.bool (isIn n)) ∧ W = w' := by
  by_cases h1 : -1073741824 ≤ n <;> by_cases h2 : n ≤ 1073741824
  all_goals
    go_enter Tryd.func38, Tryd.ntmps38
    go_wp2_with fail
    go_ret
    exact ⟨by simp [isIn, h1, h2], rfl⟩

end Go.Proofs.YthnehnabldgagaaDoor

