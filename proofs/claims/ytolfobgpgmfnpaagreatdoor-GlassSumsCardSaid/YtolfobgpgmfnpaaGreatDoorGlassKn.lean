/-
  Chapter 11's example, as the statements ask it ahead of all else.
-/
import Derived.Test.YtolfobgpgmfnpaaGreatDoorGh
import Derived.Test.YtolfobgpgmfnpaaGreatDoorGlassRdW
namespace Go.Proofs.YtolfobgpgmfnpaaGreatDoor
set_option linter.unusedVariables false
open Go.ChangeShapes Go.WideShapes Go.ChangeAt Go.RowKit

theorem readk_c {R : Rd} (s : List UInt8) (hR : readG s = R) (hz : s.length ≤ 9223372036854775807) (W : World) : Calls Tryz.prog 8 #[.string (bsOf s)] W fun e w' => ∃ v', e = .returned (.tuple #[v', plV2 R.line R.col, .int .i64 R.err]) ∧ More W w' ∧ Gls w' v' R.l := by
  subst hR
  exact readg_c s hz W
def kG : Gl := ⟨[107], ⟨1, 0⟩, ⟨0, 0⟩, ⟨0, 0⟩, ⟨1, 2⟩, ⟨1, 0⟩, ⟨1, 0⟩⟩
theorem kG_ok : OkL [kG] := by
  refine ⟨by decide, fun g hg => ?_, by decide, by decide⟩
  rw [List.mem_singleton.1 hg]
  exact ⟨⟨107, [], rfl, rfl, rfl, by decide⟩, ⟨rfl, by decide⟩, ⟨rfl, by decide⟩, ⟨rfl, by decide⟩, ⟨rfl, by decide⟩, ⟨rfl, by decide⟩, ⟨rfl, by decide⟩⟩
theorem kread (W : World) : Calls Tryz.prog 8 #[.string ⟨#[103, 108, 97, 115, 115, 32, 107, 32, 49, 32, 48, 46, 48, 49, 32, 48, 32, 49, 32, 48, 32, 49]⟩] W fun e w' => ∃ b o c, e = .returned (.tuple #[.slice (some ⟨b, o, none⟩) 1 c, .complex .f64 0 0, .int .i64 0]) ∧ More W w' ∧ b < w'.heap.size ∧ Gls w' (.slice (some ⟨b, o, none⟩) 1 c) [kG] ∧ w'.cell? ⟨b, o, none⟩ = some (.string ⟨#[107]⟩) := by
  refine (readk_c (R := ⟨[kG], 0, 0, 0⟩) [103, 108, 97, 115, 115, 32, 107, 32, 49, 32, 48, 46, 48, 49, 32, 48, 32, 49, 32, 48, 32, 49] (by kernel_rfl) (by decide) W).mono ?_
  rintro e w' ⟨v', rfl, hm, hr⟩
  obtain ⟨ao, c, rfl, hc⟩ := grow_form gls_pos hr
  obtain ⟨b, o, rfl, hb, hd⟩ := hc (by decide)
  refine ⟨b, o, c, ?_, hm, hb, hr, hd 0 kG rfl 0 _ rfl⟩
  dsimp only
  rw [plV2_zero]
  rfl

set_option maxHeartbeats 8000000 in
theorem known11_c (W : World) (ht : Tab W) :
    Calls Tryz.prog 15 #[] W fun e w' => e = .returned (.bool true) ∧ More W w' := by
  have e0 : ∀ w, (binOp .eql 22 (.complex .f64 0 0) (.complex .f64 0 0)).run Tryz.prog w = .ok (.bool true) w := fun w => by kernel_rfl
  have hq : (textG [kG] == [103, 108, 97, 115, 115, 32, 107, 32, 49, 32, 48, 46, 48, 49, 32, 48, 32, 49, 32, 48, 32, 49, 10]) = true := by kernel_rfl
  have ho := kG_ok
  go_enter Tryz.func15, Tryz.ntmps15
  go_wp2_with fail
  go_at_call 8
  refine Calls.mono (kread _) ?_
  rintro e w' ⟨b, o, c, rfl, hm, hb, hg, hcell⟩
  have htab : Tab w' := by obtain ⟨r, rfl⟩ := hm; exact ht.more
  go_wp2_with (first | (go_at_call 41; (with_reducible refine Calls.mono (right_w _ _ (by (repeat (first | assumption | with_reducible apply GRow.more | with_reducible apply GRow.alloc | with_reducible apply GRow.drew | with_reducible apply GRow.drewN))) (by assumption) (by (repeat (first | assumption | with_reducible apply Tab.more | with_reducible apply Tab.alloc | with_reducible apply Tab.drew | with_reducible apply Tab.drewN)))) ?_); rintro e w' ⟨rfl, r, rfl⟩) | (go_at_call 42; (with_reducible refine Calls.mono (printg_w _ _ (by (repeat (first | assumption | with_reducible apply GRow.more | with_reducible apply GRow.alloc | with_reducible apply GRow.drew | with_reducible apply GRow.drewN))) (by assumption) (by (repeat (first | assumption | with_reducible apply Tab.more | with_reducible apply Tab.alloc | with_reducible apply Tab.drew | with_reducible apply Tab.drewN)))) ?_); rintro e w' ⟨rfl, r, rfl⟩))
  go_returns
  exact ⟨rfl, hm.trans (by repeat (first | exact More.refl _ | refine More.alloc ?_ _ | refine More.more ?_ _ | refine More.drew ?_ | refine More.drewN ?_ _))⟩

end Go.Proofs.YtolfobgpgmfnpaaGreatDoor

