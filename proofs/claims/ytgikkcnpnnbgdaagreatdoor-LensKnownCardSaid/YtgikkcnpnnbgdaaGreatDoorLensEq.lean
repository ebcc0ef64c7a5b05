/-
  Two lenses against each other: Same.
-/
import Derived.Test.YtgikkcnpnnbgdaaGreatDoorLensPr
import Derived.Laws.StructEq
namespace Go.Proofs.YtgikkcnpnnbgdaaGreatDoor
set_option linter.unusedVariables false
open Go.ChangeShapes Go.WideShapes Go.ChangeAt Go.RowKit

set_option maxHeartbeats 4000000 in
theorem eqIn_dec (c s : Int) (w : World) : (Op.equalIn 9999 27 (.agg #[.int .i64 c, .int .i64 s]) (.agg #[.int .i64 c, .int .i64 s])).run Tryz.prog w = .ok true w := by
  have hS : Tryz.prog.underlying 27 = some (.struct (Tryz.prog.fieldsOf 27)) := by kernel_rfl
  have hp : Tryz.prog.stoodInHeld 27 = false := by kernel_rfl
  rw [show (9999 : Nat) = 9998 + 1 from rfl, run_equalIn_agg w 9998 _ _ _ hS hp]
  simp only [Program.fieldsOf, Tryz.underlying27]
  go_simp
set_option maxHeartbeats 4000000 in
set_option maxRecDepth 100000 in
theorem neq_fc (p : Bool) (s : ByteArray) (x1 x2 x3 x4 x5 x6 x7 x8 x9 x10 x11 x12 : Int) (w : World) :
    (binOp .neq 37 (.agg #[.bool p, .int .i64 x1, .int .i64 x2, .int .i64 x3, .int .i64 x4, .int .i64 x5, .int .i64 x6, .int .i64 x7, .int .i64 x8, .int .i64 x9, .int .i64 x10, .int .i64 x11, .int .i64 x12, .string s]) (.agg #[.bool p, .int .i64 x1, .int .i64 x2, .int .i64 x3, .int .i64 x4, .int .i64 x5, .int .i64 x6, .int .i64 x7, .int .i64 x8, .int .i64 x9, .int .i64 x10, .int .i64 x11, .int .i64 x12, .string s])).run Tryz.prog w = .ok (.bool false) w := by
  have hS : Tryz.prog.underlying 37 = some (.struct (Tryz.prog.fieldsOf 37)) := by kernel_rfl
  have hp : Tryz.prog.stoodInHeld 37 = false := by kernel_rfl
  have hd := eqIn_dec
  rw [run_neq_struct, show (10000 : Nat) = 9999 + 1 from rfl, run_equalIn_agg w 9999 _ _ _ hS hp]
  simp only [Program.fieldsOf, Tryz.underlying37]
  go_simp

set_option maxHeartbeats 3000000 in
set_option maxRecDepth 100000 in
theorem equal_c (l : List Fc) (u v : Value) (W : World) (hu : Fcs W u l) (hv : Fcs W v l) (hl : l.length ≤ 1000000) :
    Calls Tryz.prog 24 #[u, v] W fun e w' => e = .returned (.bool true) ∧ More W w' := by
  obtain ⟨ao, c, rfl, -⟩ := grow_form fcs_pos hu
  obtain ⟨bo, d, rfl, -⟩ := grow_form fcs_pos hv
  have HU := Lib.hid hu
  have HV := Lib.hid hv
  clear hu hv
  go_enter Tryz.func24, Tryz.ntmps24
  go_wp2_with fail
  go_loopw [13] (fun i wr => ∃ k : Nat, k ≤ l.length ∧ i = .int .i64 k ∧ More W wr) (fun i _ => l.length - (intOf i).toNat)
  case atStart => exact ⟨0, by omega, rfl, (by repeat (first | exact More.refl _ | refine More.alloc ?_ _ | refine More.more ?_ _ | refine More.drew ?_ | refine More.drewN ?_ _))⟩
  case round =>
    obtain ⟨k, hk, rfl, s, rfl⟩ := hrel
    by_cases hkl : k < l.length
    · obtain ⟨f, hf⟩ : ∃ f, l[k]? = some f := ⟨l[k], List.getElem?_eq_getElem hkl⟩
      obtain ⟨b, o, rfl, hb, hL, hL0⟩ := fcs_at HU.out hf
      obtain ⟨b', o', rfl, hb', hL', hL0'⟩ := fcs_at HV.out hf
      clear hf
      obtain ⟨fs, ⟨fr1, fr2⟩, ⟨fa1, fa2⟩, ⟨ft1, ft2⟩, ⟨fk1, fk2⟩, ⟨fp1, fp2⟩, ⟨fq1, fq2⟩, fg⟩ := f
      have hq := neq_fc fs (bsOf fg) fr1 fr2 fa1 fa2 ft1 ft2 fk1 fk2 fp1 fp2 fq1 fq2
      have hlt : ((k : Nat) : Int) < ((l.length : Nat) : Int) := by omega
      go_wp2_with fail
      go_region
      all_goals go_wp2_with fail
      all_goals
        go_roundw
        case rel => exact ⟨k + 1, by omega, rfl, (by repeat (first | exact More.refl _ | refine More.alloc ?_ _ | refine More.more ?_ _ | refine More.drew ?_ | refine More.drewN ?_ _))⟩
        case measure => simp [intOf] <;> omega
    · obtain rfl : k = l.length := by omega
      go_wp2_with fail
      go_returns
      exact ⟨rfl, (by repeat (first | exact More.refl _ | refine More.alloc ?_ _ | refine More.more ?_ _ | refine More.drew ?_ | refine More.drewN ?_ _))⟩

set_option maxHeartbeats 3000000 in
set_option maxRecDepth 100000 in
theorem same_yes (x : Ln) (u v : Value) (W : World) (hu : Fcs W u x.faces) (hv : Fcs W v x.faces) (hl : x.faces.length ≤ 1000000) :
    Calls Tryz.prog 12 #[lnV x u, lnV x v] W fun e w' => e = .returned (.bool true) ∧ More W w' := by
  obtain ⟨ao, c, rfl, -⟩ := grow_form fcs_pos hu
  obtain ⟨bo, d, rfl, -⟩ := grow_form fcs_pos hv
  obtain ⟨nm, ⟨bc, bs⟩, fcs⟩ := x
  have HU := Lib.hid hu
  have HV := Lib.hid hv
  clear hu hv
  dsimp only at HU HV hl ⊢
  have hq : (nm == nm) = true := by simp
  have hd : ∀ w, (binOp .eql 27 (.agg #[.int .i64 bc, .int .i64 bs]) (.agg #[.int .i64 bc, .int .i64 bs])).run Tryz.prog w = .ok (.bool true) w := by
    intro w
    have hS : Tryz.prog.underlying 27 = some (.struct (Tryz.prog.fieldsOf 27)) := by kernel_rfl
    have hp : Tryz.prog.stoodInHeld 27 = false := by kernel_rfl
    rw [run_eql_struct, show (10000 : Nat) = 9999 + 1 from rfl, run_equalIn_agg w 9999 _ _ _ hS hp]
    simp only [Program.fieldsOf, Tryz.underlying27]
    go_simp
  go_enter Tryz.func12, Tryz.ntmps12
  go_wp2_with (first | (go_at_call 24; (refine Calls.mono (equal_c fcs _ _ _ (GRow.up HU.out (by repeat (first | exact More.refl _ | refine More.alloc ?_ _ | refine More.more ?_ _ | refine More.drew ?_ | refine More.drewN ?_ _))) (GRow.up HV.out (by repeat (first | exact More.refl _ | refine More.alloc ?_ _ | refine More.more ?_ _ | refine More.drew ?_ | refine More.drewN ?_ _))) hl) ?_); rintro e w' ⟨rfl, r, rfl⟩))
  go_returns
  exact ⟨rfl, (by repeat (first | exact More.refl _ | refine More.alloc ?_ _ | refine More.more ?_ _ | refine More.drew ?_ | refine More.drewN ?_ _))⟩

set_option maxHeartbeats 3000000 in
set_option maxRecDepth 100000 in
theorem same_name (x y : Ln) (u v : Value) (W : World) (hu : Fcs W u x.faces) (hv : Fcs W v y.faces) (hn : x.name ≠ y.name) :
    Calls Tryz.prog 12 #[lnV x u, lnV y v] W fun e w' => e = .returned (.bool false) ∧ More W w' := by
  obtain ⟨ao, c, rfl, -⟩ := grow_form fcs_pos hu
  obtain ⟨bo, d, rfl, -⟩ := grow_form fcs_pos hv
  obtain ⟨nm, ⟨bc, bs⟩, fcs⟩ := x
  obtain ⟨nm2, ⟨bc2, bs2⟩, fcs2⟩ := y
  clear hu hv
  dsimp only at hn ⊢
  have hq : (nm == nm2) = false := by simpa using hn
  clear hn
  go_enter Tryz.func12, Tryz.ntmps12
  go_wp2_with fail
  go_returns
  exact ⟨rfl, (by repeat (first | exact More.refl _ | refine More.alloc ?_ _ | refine More.more ?_ _ | refine More.drew ?_ | refine More.drewN ?_ _))⟩

end Go.Proofs.YtgikkcnpnnbgdaaGreatDoor

