/-
  Chapter 12's example, as the statements ask it ahead of all else.
-/
import Derived.Test.YtgikkcnpnnbgdaaGreatDoorLensRt
import Derived.Test.YtgikkcnpnnbgdaaGreatDoorLit9
namespace Go.Proofs.YtgikkcnpnnbgdaaGreatDoor
set_option linter.unusedVariables false
open Go.ChangeShapes Go.WideShapes Go.ChangeAt Go.RowKit

def kFc : Fc := ⟨false, ⟨0, 0⟩, ⟨5, 0⟩, ⟨1, 0⟩, ⟨0, 0⟩, ⟨0, 0⟩, ⟨0, 0⟩, [97, 105, 114]⟩
def kLn : Ln := ⟨[97], ⟨40, 0⟩, [kFc]⟩
def kTx : List UInt8 := [108, 101, 110, 115, 32, 97, 32, 52, 48, 10, 102, 97, 99, 101, 32, 48, 32, 53, 32, 49, 32, 97, 105, 114, 10]
theorem kText : textP kLn = kTx := by kernel_rfl
theorem kShort : Short kLn := by
  refine ⟨?_, fun f hf => ?_, by decide⟩
  · have : headP3 kLn.name kLn.back = [108, 101, 110, 115, 32, 97, 32, 52, 48, 10] := by kernel_rfl
    rw [this]
    decide
  · obtain rfl : f = kFc := by simpa [kLn] using hf
    have : faceP kFc = [102, 97, 99, 101, 32, 48, 32, 53, 32, 49, 32, 97, 105, 114, 10] := by kernel_rfl
    rw [this]
    decide
theorem kRead0 : readLn [] [108, 101, 110, 115, 32, 97, 32, 52, 48, 10, 102, 97, 99, 101, 32, 48, 32, 53, 32, 49, 32, 97, 105, 114] = .ok kLn := by kernel_rfl
theorem kRead1 : readLn (([] : List Gl).map Gl.name) (textP kLn) = .ok kLn := by
  rw [kText]
  kernel_rfl
theorem kRead2 : readLn ((kLn.faces.map askG).map Gl.name) (textP kLn) = .ok kLn := by
  rw [kText]
  kernel_rfl
theorem gls_none (W : World) : Gls W (.slice none 0 0) [] := .inl ⟨rfl, rfl⟩
theorem kreadl (W : World) : Calls Tryz.prog 8 #[.string ⟨#[108, 101, 110, 115, 32, 97, 32, 52, 48, 10, 102, 97, 99, 101, 32, 48, 32, 53, 32, 49, 32, 97, 105, 114]⟩, .slice none 0 0] W fun e w' => ∃ b o c, e = .returned (.tuple #[.agg #[.string ⟨#[97]⟩, .int .i64 40, .int .i64 0, .slice (some ⟨b, o, none⟩) 1 c], .complex .f64 0 0, .int .i64 0]) ∧ More W w' ∧ b < w'.heap.size ∧ Fcs w' (.slice (some ⟨b, o, none⟩) 1 c) [kFc] ∧ w'.cell? ⟨b, o + 13, none⟩ = some (.string ⟨#[97, 105, 114]⟩) := by
  have h := readl_c [108, 101, 110, 115, 32, 97, 32, 52, 48, 10, 102, 97, 99, 101, 32, 48, 32, 53, 32, 49, 32, 97, 105, 114] (.slice none 0 0) [] W (by decide) (gls_none W) (by decide)
  rw [show readLn (([] : List Gl).map Gl.name) [108, 101, 110, 115, 32, 97, 32, 52, 48, 10, 102, 97, 99, 101, 32, 48, 32, 53, 32, 49, 32, 97, 105, 114] = .ok kLn from kRead0] at h
  refine h.mono ?_
  rintro e w' ⟨lv, rfl, hm, hr⟩
  have hr : Fcs w' lv [kFc] := hr
  obtain ⟨ao, c, rfl, hc⟩ := grow_form fcs_pos hr
  obtain ⟨b, o, rfl, hb, hd⟩ := hc (by decide)
  refine ⟨b, o, c, ?_, hm, hb, hr, ?_⟩
  · show Ending.returned (.tuple #[_, plV2 0 0, _]) = _
    rw [plV2_zero]
    rfl
  · have := hd 0 kFc rfl 13 (.string ⟨#[97, 105, 114]⟩) rfl
    simpa using this

set_option maxHeartbeats 3000000 in
theorem known12_c (W : World) (ht : Tab W) :
    Calls Tryz.prog 9 #[] W fun e w' => e = .returned (.bool true) ∧ More W w' := by
  have e0 : ∀ w, (binOp .eql 24 (.complex .f64 0 0) (.complex .f64 0 0)).run Tryz.prog w = .ok (.bool true) w := fun w => by kernel_rfl
  have hR : ∀ W1 lv, More W W1 → Fcs W1 lv [kFc] → Calls Tryz.prog 10 #[.agg #[.string ⟨#[97]⟩, .int .i64 40, .int .i64 0, lv], .slice none 0 0] W1 fun e w' => e = .returned (.bool true) ∧ More W1 w' := fun W1 lv hM hF => rightl_yes kLn lv _ [] W1 hF (gls_none W1) (by decide) kShort (by decide) (Tab.up hM ht) kRead1
  have hP : ∀ W1 lv, More W W1 → Fcs W1 lv [kFc] → Calls Tryz.prog 11 #[.agg #[.string ⟨#[97]⟩, .int .i64 40, .int .i64 0, lv]] W1 fun e w' => e = .returned (.string ⟨#[108, 101, 110, 115, 32, 97, 32, 52, 48, 10, 102, 97, 99, 101, 32, 48, 32, 53, 32, 49, 32, 97, 105, 114, 10]⟩) ∧ More W1 w' := by
    intro W1 lv hM hF
    have h := printl_yes kLn lv W1 hF kShort (by decide) (Tab.up hM ht) kRead2
    rw [kText] at h
    exact h
  have HR := Lib.hid hR
  have HP := Lib.hid hP
  clear hR hP
  go_enter Tryz.func9, Tryz.ntmps9
  go_wp2_with fail
  go_at_call 8
  refine Calls.mono (kreadl _) ?_
  rintro e w' ⟨b, o, c, rfl, hm, hb, hg, hcell⟩
  have HF := Lib.hid hg
  have HM := Lib.hid hm
  clear hg hm
  go_wp2_with (first
    | (go_at_call 10; (refine Calls.mono (HR.out _ _ (HM.out.trans (by repeat (first | exact More.refl _ | refine More.alloc ?_ _ | refine More.more ?_ _ | refine More.drew ?_ | refine More.drewN ?_ _))) (GRow.up HF.out (by repeat (first | exact More.refl _ | refine More.alloc ?_ _ | refine More.more ?_ _ | refine More.drew ?_ | refine More.drewN ?_ _)))) ?_); rintro e w'' ⟨rfl, r1, rfl⟩)
    | (go_at_call 11; (refine Calls.mono (HP.out _ _ (HM.out.trans (by repeat (first | exact More.refl _ | refine More.alloc ?_ _ | refine More.more ?_ _ | refine More.drew ?_ | refine More.drewN ?_ _))) (GRow.up HF.out (by repeat (first | exact More.refl _ | refine More.alloc ?_ _ | refine More.more ?_ _ | refine More.drew ?_ | refine More.drewN ?_ _)))) ?_); rintro e w'' ⟨rfl, r2, rfl⟩))
  go_returns
  exact ⟨rfl, HM.out.trans (by repeat (first | exact More.refl _ | refine More.alloc ?_ _ | refine More.more ?_ _ | refine More.drew ?_ | refine More.drewN ?_ _))⟩

end Go.Proofs.YtgikkcnpnnbgdaaGreatDoor

