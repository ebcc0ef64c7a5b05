/-
  Two lenses against each other: Same.
  Which lenses may be, and their texts: Right, Print.
  Chapter 12's example, as the statements ask it ahead of all else.
-/
import Derived.Test.YtekhhekkepijoaaGreatDoorLensTx2
import Derived.Test.YtekhhekkepijoaaGreatDoorLensRdr
import Derived.Laws.StructEq
import Derived.Test.YtekhhekkepijoaaGreatDoorGz5
import Derived.Test.YtekhhekkepijoaaGreatDoorPrint

namespace Go.Proofs.YtekhhekkepijoaaGreatDoor
set_option linter.unusedVariables false
open Go.ChangeShapes Go.WideShapes Go.ChangeAt Go.RowKit

set_option maxHeartbeats 4000000 in
theorem eqIn_dec (c s : Int) (w : World) : (Op.equalIn 9999 25 (.agg #[.int .i64 c, .int .i64 s]) (.agg #[.int .i64 c, .int .i64 s])).run Tryz.prog w = .ok true w := by
  have hS : Tryz.prog.underlying 25 = some (.struct (Tryz.prog.fieldsOf 25)) := by kernel_rfl
  have hp : Tryz.prog.stoodInHeld 25 = false := by kernel_rfl
  rw [show (9999 : Nat) = 9998 + 1 from rfl, run_equalIn_agg w 9998 _ _ _ hS hp]
  simp only [Program.fieldsOf, Tryz.underlying25]
  go_simp
set_option maxHeartbeats 4000000 in
set_option maxRecDepth 100000 in
theorem neq_fc (p : Bool) (s : ByteArray) (x1 x2 x3 x4 x5 x6 x7 x8 x9 x10 x11 x12 : Int) (w : World) :
    (binOp .neq 56 (.agg #[.bool p, .int .i64 x1, .int .i64 x2, .int .i64 x3, .int .i64 x4, .int .i64 x5, .int .i64 x6, .int .i64 x7, .int .i64 x8, .int .i64 x9, .int .i64 x10, .int .i64 x11, .int .i64 x12, .string s]) (.agg #[.bool p, .int .i64 x1, .int .i64 x2, .int .i64 x3, .int .i64 x4, .int .i64 x5, .int .i64 x6, .int .i64 x7, .int .i64 x8, .int .i64 x9, .int .i64 x10, .int .i64 x11, .int .i64 x12, .string s])).run Tryz.prog w = .ok (.bool false) w := by
  have hS : Tryz.prog.underlying 56 = some (.struct (Tryz.prog.fieldsOf 56)) := by kernel_rfl
  have hp : Tryz.prog.stoodInHeld 56 = false := by kernel_rfl
  have hd := eqIn_dec
  rw [run_neq_struct, show (10000 : Nat) = 9999 + 1 from rfl, run_equalIn_agg w 9999 _ _ _ hS hp]
  simp only [Program.fieldsOf, Tryz.underlying56]
  go_simp

set_option maxHeartbeats 3000000 in
set_option maxRecDepth 100000 in
theorem equal_c (l : List Fc) (u v : Value) (W : World) (hu : Fcs W u l) (hv : Fcs W v l) (hl : l.length ≤ 1000000) :
    Calls Tryz.prog 86 #[u, v] W fun e w' => e = .returned (.bool true) ∧ More W w' := by
  obtain ⟨ao, c, rfl, -⟩ := grow_form fcs_pos hu
  obtain ⟨bo, d, rfl, -⟩ := grow_form fcs_pos hv
  have HU := Lib.hid hu
  have HV := Lib.hid hv
  clear hu hv
  go_enter Tryz.func86, Tryz.ntmps86
  go_wp2_with fail
  go_loopw [13] (fun i wr => ∃ k : Nat, k ≤ l.length ∧ i = .int .i64 k ∧ More W wr) (fun i _ => l.length - (intOf i).toNat)
  case atStart => exact ⟨0, by omega, rfl, (by repeat (first | exact More.refl _ | refine More.alloc ?_ _ | refine More.more ?_ _ | refine More.drew ?_ | refine More.drewN ?_ _))⟩
  case round =>
    obtain ⟨k, hk, rfl, s, rfl⟩ := hrel
    by_cases hkl : k < l.length
    · obtain ⟨f, hf⟩ : ∃ f, l[k]? = some f := ⟨l[k], List.getElem?_eq_getElem hkl⟩
      obtain ⟨b, o, rfl, hb, hL, hL0⟩ := fcs_at HU.out hf
      obtain ⟨b', o', rfl, hb', hL', hL0'⟩ := fcs_at HV.out hf
      clear hf
      obtain ⟨fs, ⟨fr1, fr2⟩, ⟨fa1, fa2⟩, ⟨ft1, ft2⟩, ⟨fk1, fk2⟩, ⟨fp1, fp2⟩, ⟨fq1, fq2⟩, fg⟩ := f
      have hq := neq_fc fs (bsOf fg) fr1 fr2 fa1 fa2 ft1 ft2 fk1 fk2 fp1 fp2 fq1 fq2
      have hlt : ((k : Nat) : Int) < ((l.length : Nat) : Int) := by omega
      go_wp2_with fail
      go_region
      all_goals go_wp2_with fail
      all_goals
        go_roundw
        case rel => exact ⟨k + 1, by omega, rfl, (by repeat (first | exact More.refl _ | refine More.alloc ?_ _ | refine More.more ?_ _ | refine More.drew ?_ | refine More.drewN ?_ _))⟩
        case measure => simp [intOf] <;> omega
    · obtain rfl : k = l.length := by omega
      go_wp2_with fail
      go_returns
      exact ⟨rfl, (by repeat (first | exact More.refl _ | refine More.alloc ?_ _ | refine More.more ?_ _ | refine More.drew ?_ | refine More.drewN ?_ _))⟩

set_option maxHeartbeats 3000000 in
set_option maxRecDepth 100000 in
theorem same_yes (x : Ln) (u v : Value) (W : World) (hu : Fcs W u x.faces) (hv : Fcs W v x.faces) (hl : x.faces.length ≤ 1000000) :
    Calls Tryz.prog 60 #[lnV x u, lnV x v] W fun e w' => e = .returned (.bool true) ∧ More W w' := by
  obtain ⟨ao, c, rfl, -⟩ := grow_form fcs_pos hu
  obtain ⟨bo, d, rfl, -⟩ := grow_form fcs_pos hv
  obtain ⟨nm, ⟨bc, bs⟩, fcs⟩ := x
  have HU := Lib.hid hu
  have HV := Lib.hid hv
  clear hu hv
  dsimp only at HU HV hl ⊢
  have hq : (nm == nm) = true := by simp
  have hd : ∀ w, (binOp .eql 25 (.agg #[.int .i64 bc, .int .i64 bs]) (.agg #[.int .i64 bc, .int .i64 bs])).run Tryz.prog w = .ok (.bool true) w := by
    intro w
    have hS : Tryz.prog.underlying 25 = some (.struct (Tryz.prog.fieldsOf 25)) := by kernel_rfl
    have hp : Tryz.prog.stoodInHeld 25 = false := by kernel_rfl
    rw [run_eql_struct, show (10000 : Nat) = 9999 + 1 from rfl, run_equalIn_agg w 9999 _ _ _ hS hp]
    simp only [Program.fieldsOf, Tryz.underlying25]
    go_simp
  go_enter Tryz.func60, Tryz.ntmps60
  go_wp2_with (first | (go_at_call 86; (refine Calls.mono (equal_c fcs _ _ _ (GRow.up HU.out (by repeat (first | exact More.refl _ | refine More.alloc ?_ _ | refine More.more ?_ _ | refine More.drew ?_ | refine More.drewN ?_ _))) (GRow.up HV.out (by repeat (first | exact More.refl _ | refine More.alloc ?_ _ | refine More.more ?_ _ | refine More.drew ?_ | refine More.drewN ?_ _))) hl) ?_); rintro e w' ⟨rfl, r, rfl⟩))
  go_returns
  exact ⟨rfl, (by repeat (first | exact More.refl _ | refine More.alloc ?_ _ | refine More.more ?_ _ | refine More.drew ?_ | refine More.drewN ?_ _))⟩

end Go.Proofs.YtekhhekkepijoaaGreatDoor

namespace Go.Proofs.YtekhhekkepijoaaGreatDoor
set_option linter.unusedVariables false
open Go.ChangeShapes Go.WideShapes Go.ChangeAt Go.RowKit

theorem textP_len {x : Ln} (h : Short x) : (textP x).length ≤ 9223372036854775807 := by
  have h1 := textPk_len h x.faces.length
  have h2 := h.many
  unfold textPk at h1
  rw [List.take_length] at h1
  unfold textP
  omega

set_option maxHeartbeats 3000000 in
set_option maxRecDepth 100000 in
theorem rightl_yes (x : Ln) (lv g : Value) (G : List Gl) (W : World) (hx : Fcs W lv x.faces) (hg : Gls W g G) (hG : G.length ≤ 1000000) (hsh : Short x) (h12 : x.faces.length ≤ 12) (ht : Tab W) (hr : readLn (G.map Gl.name) (textP x) = .ok x) :
    Calls Tryz.prog 25 #[lnV x lv, g] W fun e w' => e = .returned (.bool true) ∧ More W w' := by
  have hz := textP_len hsh
  obtain ⟨ao, c, rfl, -⟩ := grow_form fcs_pos hx
  have hR : ∀ W1, More W W1 → Calls Tryz.prog 6 #[.string (bsOf (textP x)), g] W1 fun en w' => ∃ la lc, en = .returned (.tuple #[lnV x (.slice la x.faces.length lc), .complex .f64 0 0, .int .i64 0]) ∧ More W1 w' ∧ Fcs w' (.slice la x.faces.length lc) x.faces := by
    intro W1 hM
    have h := readl_c (textP x) g G W1 hz (hg.up hM) hG
    rw [hr] at h
    refine h.mono ?_
    rintro en w' ⟨lv2, rfl, h2, h3⟩
    dsimp only [okL] at h3
    obtain ⟨la, lc, rfl, -⟩ := grow_form fcs_pos h3
    refine ⟨la, lc, ?_, h2, h3⟩
    show Ending.returned (.tuple #[_, plV2 0 0, _]) = _
    rw [plV2_zero]
    rfl
  have hT : ∀ W1, More W W1 → Calls Tryz.prog 59 #[lnV x (.slice ao x.faces.length c)] W1 fun e w' => e = .returned (.string (bsOf (textP x))) ∧ More W1 w' := fun W1 hM => ltext_c x _ W1 (hx.up hM) hsh (Tab.up hM ht)
  have hS : ∀ W1 u v, Fcs W1 u x.faces → Fcs W1 v x.faces → Calls Tryz.prog 60 #[lnV x u, lnV x v] W1 fun e w' => e = .returned (.bool true) ∧ More W1 w' := fun W1 u v h1 h2 => same_yes x u v W1 h1 h2 (by omega)
  have HR := Lib.hid hR
  have HT := Lib.hid hT
  have HS := Lib.hid hS
  have HX := Lib.hid hx
  clear hR hT hS hx hr hg hsh
  obtain ⟨nm, ⟨bc, bs⟩, fcs⟩ := x
  obtain ⟨TX, hTX⟩ : ∃ TX, textP ⟨nm, ⟨bc, bs⟩, fcs⟩ = TX := ⟨_, rfl⟩
  rw [hTX] at HR HT hz
  dsimp only at HR HT HS HX h12 ⊢
  clear hTX
  have hn : ¬ (12 : Int) < ((fcs.length : Nat) : Int) := by omega
  go_enter Tryz.func25, Tryz.ntmps25
  go_wp2_with (first
    | (go_at_call 59; (refine Calls.mono (HT.out _ (by repeat (first | exact More.refl _ | refine More.alloc ?_ _ | refine More.more ?_ _ | refine More.drew ?_ | refine More.drewN ?_ _))) ?_); rintro e w' ⟨rfl, r1, rfl⟩)
    | (go_at_call 6; (refine Calls.mono (HR.out _ (by repeat (first | exact More.refl _ | refine More.alloc ?_ _ | refine More.more ?_ _ | refine More.drew ?_ | refine More.drewN ?_ _))) ?_); rintro e w' ⟨la, lc, rfl, ⟨r2, rfl⟩, hF⟩; simp only [more_more] at hF)
    | (go_at_call 60; (refine Calls.mono (HS.out _ _ _ (GRow.up hF (by repeat (first | exact More.refl _ | refine More.alloc ?_ _ | refine More.more ?_ _ | refine More.drew ?_ | refine More.drewN ?_ _))) (GRow.up HX.out (by repeat (first | exact More.refl _ | refine More.alloc ?_ _ | refine More.more ?_ _ | refine More.drew ?_ | refine More.drewN ?_ _)))) ?_); rintro e w' ⟨rfl, r3, rfl⟩))
  go_returns
  exact ⟨rfl, (by repeat (first | exact More.refl _ | refine More.alloc ?_ _ | refine More.more ?_ _ | refine More.drew ?_ | refine More.drewN ?_ _))⟩

set_option maxHeartbeats 3000000 in
set_option maxRecDepth 100000 in
theorem rightl_no (x : Ln) (lv g : Value) (G : List Gl) (W : World) (f : Flt) (hx : Fcs W lv x.faces) (hg : Gls W g G) (hG : G.length ≤ 1000000) (hsh : Short x) (h12 : x.faces.length ≤ 12) (ht : Tab W) (hr : readLn (G.map Gl.name) (textP x) = .error f) (he : f.err ≠ 0) :
    Calls Tryz.prog 25 #[lnV x lv, g] W fun e w' => e = .returned (.bool false) ∧ More W w' := by
  have hz := textP_len hsh
  obtain ⟨ao, c, rfl, -⟩ := grow_form fcs_pos hx
  obtain ⟨fL, fC, fE⟩ := f
  dsimp only at he
  have hR : ∀ W1, More W W1 → Calls Tryz.prog 6 #[.string (bsOf (textP x)), g] W1 fun en w' => ∃ la lc, en = .returned (.tuple #[.agg #[.string ⟨#[]⟩, .int .i64 0, .int .i64 0, .slice la 0 lc], .complex .f64 (nw fL) (nw fC), .int .i64 fE]) ∧ More W1 w' := by
    intro W1 hM
    have h := readl_c (textP x) g G W1 hz (hg.up hM) hG
    rw [hr] at h
    refine h.mono ?_
    rintro en w' ⟨lv2, rfl, h2, h3⟩
    dsimp only [okL] at h3
    obtain ⟨la, lc, rfl, -⟩ := grow_form fcs_pos h3
    exact ⟨la, lc, rfl, h2⟩
  have hT : ∀ W1, More W W1 → Calls Tryz.prog 59 #[lnV x (.slice ao x.faces.length c)] W1 fun e w' => e = .returned (.string (bsOf (textP x))) ∧ More W1 w' := fun W1 hM => ltext_c x _ W1 (hx.up hM) hsh (Tab.up hM ht)
  have HR := Lib.hid hR
  have HT := Lib.hid hT
  clear hR hT hx hr hg hsh
  obtain ⟨nm, ⟨bc, bs⟩, fcs⟩ := x
  obtain ⟨TX, hTX⟩ : ∃ TX, textP ⟨nm, ⟨bc, bs⟩, fcs⟩ = TX := ⟨_, rfl⟩
  rw [hTX] at HR HT hz
  dsimp only at HR HT h12 ⊢
  clear hTX
  have hn : ¬ (12 : Int) < ((fcs.length : Nat) : Int) := by omega
  have hq : ((fE : Int) == 0) = false := by simp; omega
  go_enter Tryz.func25, Tryz.ntmps25
  go_wp2_with (first
    | (go_at_call 59; (refine Calls.mono (HT.out _ (by repeat (first | exact More.refl _ | refine More.alloc ?_ _ | refine More.more ?_ _ | refine More.drew ?_ | refine More.drewN ?_ _))) ?_); rintro e w' ⟨rfl, r1, rfl⟩)
    | (go_at_call 6; (refine Calls.mono (HR.out _ (by repeat (first | exact More.refl _ | refine More.alloc ?_ _ | refine More.more ?_ _ | refine More.drew ?_ | refine More.drewN ?_ _))) ?_); rintro e w' ⟨la, lc, rfl, r2, rfl⟩))
  go_returns
  exact ⟨rfl, (by repeat (first | exact More.refl _ | refine More.alloc ?_ _ | refine More.more ?_ _ | refine More.drew ?_ | refine More.drewN ?_ _))⟩

end Go.Proofs.YtekhhekkepijoaaGreatDoor

namespace Go.Proofs.YtekhhekkepijoaaGreatDoor
set_option linter.unusedVariables false
open Go.ChangeShapes Go.WideShapes Go.ChangeAt Go.RowKit

theorem gls_none (W : World) : Gls W (.slice none 0 0) [] := .inl ⟨rfl, rfl⟩
end Go.Proofs.YtekhhekkepijoaaGreatDoor
