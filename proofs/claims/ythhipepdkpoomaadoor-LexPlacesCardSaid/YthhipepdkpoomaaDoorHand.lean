/-
  The contracts of the numbers that are handed in: any number as a number of steps.
-/
import Derived.Test.YthhipepdkpoomaaDoorNum
import Derived.Test.YthhipepdkpoomaaDoorIvMath
import Derived.Test.YthhipepdkpoomaaDoorReg3
namespace Go.Proofs.YthhipepdkpoomaaDoor
set_option linter.unusedVariables false
open Go.ChangeShapes Go.WideShapes Go.ChangeAt Go.RowKit

set_option maxHeartbeats 4000000 in
theorem pick_c (n m : Int) (hn : -9223372036854775808 ≤ n) (hn' : n ≤ 9223372036854775807) (hm : 0 < m) (hm' : m ≤ 9223372036854775807) (W : World) :
    Calls Tryd.prog 13 #[.int .i64 n, .int .i64 m] W fun e w' => e = .returned (.int .i64 (n % m)) ∧ W = w' := by
  have h1 := Int.emod_nonneg n (show m ≠ 0 by omega)
  have h2 := Int.emod_lt_of_pos n hm
  by_cases h0 : 0 ≤ n
  · have h3 : ¬ n % m < 0 := by omega
    go_enter Tryd.func13, Tryd.ntmps13
    go_wp2_with fail
    go_ret
    exact ⟨rfl, rfl⟩
  · have h4 : n.tmod m = -((-n).tmod m) := by rw [Int.neg_tmod]; omega
    have h5 : (-n).tmod m = (-n) % m := Int.tmod_eq_emod_of_nonneg (by omega)
    have h6 := Int.emod_nonneg (-n) (show m ≠ 0 by omega)
    have h7 := Int.emod_lt_of_pos (-n) hm
    have h8 : n % m = if n.tmod m < 0 then n.tmod m + m else n.tmod m := by
      have h9 := Int.tmod_eq_emod (a := n) (b := m)
      have h10 : m.natAbs = m := by omega
      split at h9 <;> split <;> omega
    rw [h8]
    clear h8
    by_cases h11 : n.tmod m < 0
    · rw [if_pos h11]
      have hb : -m < n.tmod m := by omega
      clear h4 h5 h6 h7 h1 h2
      go_enter Tryd.func13, Tryd.ntmps13
      go_wp2_with fail
      go_ret
      exact ⟨rfl, rfl⟩
    · rw [if_neg h11]
      clear h4 h5 h6 h7 h1 h2
      go_enter Tryd.func13, Tryd.ntmps13
      go_wp2_with fail
      go_ret
      exact ⟨rfl, rfl⟩

end Go.Proofs.YthhipepdkpoomaaDoor

