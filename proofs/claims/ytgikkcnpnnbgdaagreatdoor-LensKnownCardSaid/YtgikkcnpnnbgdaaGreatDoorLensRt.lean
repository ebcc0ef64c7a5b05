/-
  Which lenses may be, and their texts: Right, Print.
-/
import Derived.Test.YtgikkcnpnnbgdaaGreatDoorLensEq
namespace Go.Proofs.YtgikkcnpnnbgdaaGreatDoor
set_option linter.unusedVariables false
open Go.ChangeShapes Go.WideShapes Go.ChangeAt Go.RowKit

theorem textP_len {x : Ln} (h : Short x) : (textP x).length ≤ 9223372036854775807 := by
  have h1 := textPk_len h x.faces.length
  have h2 := h.many
  unfold textPk at h1
  rw [List.take_length] at h1
  unfold textP
  omega

set_option maxHeartbeats 3000000 in
set_option maxRecDepth 100000 in
theorem rightl_yes (x : Ln) (lv g : Value) (G : List Gl) (W : World) (hx : Fcs W lv x.faces) (hg : Gls W g G) (hG : G.length ≤ 1000000) (hsh : Short x) (h12 : x.faces.length ≤ 12) (ht : Tab W) (hr : readLn (G.map Gl.name) (textP x) = .ok x) :
    Calls Tryz.prog 10 #[lnV x lv, g] W fun e w' => e = .returned (.bool true) ∧ More W w' := by
  have hz := textP_len hsh
  obtain ⟨ao, c, rfl, -⟩ := grow_form fcs_pos hx
  have hR : ∀ W1, More W W1 → Calls Tryz.prog 8 #[.string (bsOf (textP x)), g] W1 fun en w' => ∃ la lc, en = .returned (.tuple #[lnV x (.slice la x.faces.length lc), .complex .f64 0 0, .int .i64 0]) ∧ More W1 w' ∧ Fcs w' (.slice la x.faces.length lc) x.faces := by
    intro W1 hM
    have h := readl_c (textP x) g G W1 hz (hg.up hM) hG
    rw [hr] at h
    refine h.mono ?_
    rintro en w' ⟨lv2, rfl, h2, h3⟩
    dsimp only [okL] at h3
    obtain ⟨la, lc, rfl, -⟩ := grow_form fcs_pos h3
    refine ⟨la, lc, ?_, h2, h3⟩
    show Ending.returned (.tuple #[_, plV2 0 0, _]) = _
    rw [plV2_zero]
    rfl
  have hT : ∀ W1, More W W1 → Calls Tryz.prog 22 #[lnV x (.slice ao x.faces.length c)] W1 fun e w' => e = .returned (.string (bsOf (textP x))) ∧ More W1 w' := fun W1 hM => ltext_c x _ W1 (hx.up hM) hsh (Tab.up hM ht)
  have hS : ∀ W1 u v, Fcs W1 u x.faces → Fcs W1 v x.faces → Calls Tryz.prog 12 #[lnV x u, lnV x v] W1 fun e w' => e = .returned (.bool true) ∧ More W1 w' := fun W1 u v h1 h2 => same_yes x u v W1 h1 h2 (by omega)
  have HR := Lib.hid hR
  have HT := Lib.hid hT
  have HS := Lib.hid hS
  have HX := Lib.hid hx
  clear hR hT hS hx hr hg hsh
  obtain ⟨nm, ⟨bc, bs⟩, fcs⟩ := x
  obtain ⟨TX, hTX⟩ : ∃ TX, textP ⟨nm, ⟨bc, bs⟩, fcs⟩ = TX := ⟨_, rfl⟩
  rw [hTX] at HR HT hz
  dsimp only at HR HT HS HX h12 ⊢
  clear hTX
  have hn : ¬ (12 : Int) < ((fcs.length : Nat) : Int) := by omega
  go_enter Tryz.func10, Tryz.ntmps10
  go_wp2_with (first
    | (go_at_call 22; (refine Calls.mono (HT.out _ (by repeat (first | exact More.refl _ | refine More.alloc ?_ _ | refine More.more ?_ _ | refine More.drew ?_ | refine More.drewN ?_ _))) ?_); rintro e w' ⟨rfl, r1, rfl⟩)
    | (go_at_call 8; (refine Calls.mono (HR.out _ (by repeat (first | exact More.refl _ | refine More.alloc ?_ _ | refine More.more ?_ _ | refine More.drew ?_ | refine More.drewN ?_ _))) ?_); rintro e w' ⟨la, lc, rfl, ⟨r2, rfl⟩, hF⟩; simp only [more_more] at hF)
    | (go_at_call 12; (refine Calls.mono (HS.out _ _ _ (GRow.up hF (by repeat (first | exact More.refl _ | refine More.alloc ?_ _ | refine More.more ?_ _ | refine More.drew ?_ | refine More.drewN ?_ _))) (GRow.up HX.out (by repeat (first | exact More.refl _ | refine More.alloc ?_ _ | refine More.more ?_ _ | refine More.drew ?_ | refine More.drewN ?_ _)))) ?_); rintro e w' ⟨rfl, r3, rfl⟩))
  go_returns
  exact ⟨rfl, (by repeat (first | exact More.refl _ | refine More.alloc ?_ _ | refine More.more ?_ _ | refine More.drew ?_ | refine More.drewN ?_ _))⟩

set_option maxHeartbeats 3000000 in
set_option maxRecDepth 100000 in
theorem rightl_no (x : Ln) (lv g : Value) (G : List Gl) (W : World) (f : Flt) (hx : Fcs W lv x.faces) (hg : Gls W g G) (hG : G.length ≤ 1000000) (hsh : Short x) (h12 : x.faces.length ≤ 12) (ht : Tab W) (hr : readLn (G.map Gl.name) (textP x) = .error f) (he : f.err ≠ 0) :
    Calls Tryz.prog 10 #[lnV x lv, g] W fun e w' => e = .returned (.bool false) ∧ More W w' := by
  have hz := textP_len hsh
  obtain ⟨ao, c, rfl, -⟩ := grow_form fcs_pos hx
  obtain ⟨fL, fC, fE⟩ := f
  dsimp only at he
  have hR : ∀ W1, More W W1 → Calls Tryz.prog 8 #[.string (bsOf (textP x)), g] W1 fun en w' => ∃ la lc, en = .returned (.tuple #[.agg #[.string ⟨#[]⟩, .int .i64 0, .int .i64 0, .slice la 0 lc], .complex .f64 (nw fL) (nw fC), .int .i64 fE]) ∧ More W1 w' := by
    intro W1 hM
    have h := readl_c (textP x) g G W1 hz (hg.up hM) hG
    rw [hr] at h
    refine h.mono ?_
    rintro en w' ⟨lv2, rfl, h2, h3⟩
    dsimp only [okL] at h3
    obtain ⟨la, lc, rfl, -⟩ := grow_form fcs_pos h3
    exact ⟨la, lc, rfl, h2⟩
  have hT : ∀ W1, More W W1 → Calls Tryz.prog 22 #[lnV x (.slice ao x.faces.length c)] W1 fun e w' => e = .returned (.string (bsOf (textP x))) ∧ More W1 w' := fun W1 hM => ltext_c x _ W1 (hx.up hM) hsh (Tab.up hM ht)
  have HR := Lib.hid hR
  have HT := Lib.hid hT
  clear hR hT hx hr hg hsh
  obtain ⟨nm, ⟨bc, bs⟩, fcs⟩ := x
  obtain ⟨TX, hTX⟩ : ∃ TX, textP ⟨nm, ⟨bc, bs⟩, fcs⟩ = TX := ⟨_, rfl⟩
  rw [hTX] at HR HT hz
  dsimp only at HR HT h12 ⊢
  clear hTX
  have hn : ¬ (12 : Int) < ((fcs.length : Nat) : Int) := by omega
  have hq : ((fE : Int) == 0) = false := by simp; omega
  go_enter Tryz.func10, Tryz.ntmps10
  go_wp2_with (first
    | (go_at_call 22; (refine Calls.mono (HT.out _ (by repeat (first | exact More.refl _ | refine More.alloc ?_ _ | refine More.more ?_ _ | refine More.drew ?_ | refine More.drewN ?_ _))) ?_); rintro e w' ⟨rfl, r1, rfl⟩)
    | (go_at_call 8; (refine Calls.mono (HR.out _ (by repeat (first | exact More.refl _ | refine More.alloc ?_ _ | refine More.more ?_ _ | refine More.drew ?_ | refine More.drewN ?_ _))) ?_); rintro e w' ⟨la, lc, rfl, r2, rfl⟩))
  go_returns
  exact ⟨rfl, (by repeat (first | exact More.refl _ | refine More.alloc ?_ _ | refine More.more ?_ _ | refine More.drew ?_ | refine More.drewN ?_ _))⟩

set_option maxHeartbeats 3000000 in
set_option maxRecDepth 100000 in
theorem printl_yes (x : Ln) (lv : Value) (W : World) (hx : Fcs W lv x.faces) (hsh : Short x) (h12 : x.faces.length ≤ 12) (ht : Tab W) (hr : readLn ((x.faces.map askG).map Gl.name) (textP x) = .ok x) :
    Calls Tryz.prog 11 #[lnV x lv] W fun e w' => e = .returned (.string (bsOf (textP x))) ∧ More W w' := by
  obtain ⟨ao, c, rfl, -⟩ := grow_form fcs_pos hx
  have hA : ∀ W1, More W W1 → Calls Tryz.prog 23 #[lnV x (.slice ao x.faces.length c)] W1 fun e w' => ∃ v', e = .returned v' ∧ More W1 w' ∧ Gls w' v' (x.faces.map askG) := fun W1 hM => asked_c x _ W1 (hx.up hM) (by omega)
  have hR : ∀ W1 gv, More W W1 → Gls W1 gv (x.faces.map askG) → Calls Tryz.prog 10 #[lnV x (.slice ao x.faces.length c), gv] W1 fun e w' => e = .returned (.bool true) ∧ More W1 w' := fun W1 gv hM hg => rightl_yes x _ gv _ W1 (hx.up hM) hg (by rw [List.length_map]; omega) hsh h12 (Tab.up hM ht) hr
  have hT : ∀ W1, More W W1 → Calls Tryz.prog 22 #[lnV x (.slice ao x.faces.length c)] W1 fun e w' => e = .returned (.string (bsOf (textP x))) ∧ More W1 w' := fun W1 hM => ltext_c x _ W1 (hx.up hM) hsh (Tab.up hM ht)
  have HA := Lib.hid hA
  have HR := Lib.hid hR
  have HT := Lib.hid hT
  clear hA hR hT hx hr hsh
  obtain ⟨nm, ⟨bc, bs⟩, fcs⟩ := x
  obtain ⟨TX, hTX⟩ : ∃ TX, textP ⟨nm, ⟨bc, bs⟩, fcs⟩ = TX := ⟨_, rfl⟩
  rw [hTX] at HT ⊢
  dsimp only at HA HR HT h12 ⊢
  clear hTX
  go_enter Tryz.func11, Tryz.ntmps11
  go_wp2_with fail
  go_cut [7] from 3 (fun u wr => u = .bool false ∧ More (W.alloc (.cells #[.string (bsOf nm), .int .i64 bc, .int .i64 bs, .slice ao fcs.length c] 30)) wr)
  case first =>
    go_region_law (first | (go_simp; go_at_call 23; (refine Calls.mono (HA.out _ (by repeat (first | exact More.refl _ | refine More.alloc ?_ _ | refine More.more ?_ _ | refine More.drew ?_ | refine More.drewN ?_ _))) ?_); rintro e w' ⟨gv, rfl, ⟨r1, rfl⟩, hgv⟩) | (go_simp; go_at_call 10; (refine Calls.mono (HR.out _ gv (by repeat (first | exact More.refl _ | refine More.alloc ?_ _ | refine More.more ?_ _ | refine More.drew ?_ | refine More.drewN ?_ _)) (by first | exact hgv | (simp only [more_more] at hgv; exact hgv))) ?_); rintro e w' ⟨rfl, r2, rfl⟩))
    all_goals go_wp2_with fail
    all_goals go_meet
    all_goals exact ⟨rfl, (by repeat (first | exact More.refl _ | refine More.alloc ?_ _ | refine More.more ?_ _ | refine More.drew ?_ | refine More.drewN ?_ _))⟩
  case rest =>
    obtain ⟨rfl, s9, rfl⟩ := hcut
    go_wp2_with (first | (go_at_call 22; (refine Calls.mono (HT.out _ (by repeat (first | exact More.refl _ | refine More.alloc ?_ _ | refine More.more ?_ _ | refine More.drew ?_ | refine More.drewN ?_ _))) ?_); rintro e w' ⟨rfl, r1, rfl⟩))
    go_returns
    exact ⟨rfl, (by repeat (first | exact More.refl _ | refine More.alloc ?_ _ | refine More.more ?_ _ | refine More.drew ?_ | refine More.drewN ?_ _))⟩

set_option maxHeartbeats 3000000 in
set_option maxRecDepth 100000 in
theorem printl_no (x : Ln) (lv : Value) (W : World) (f : Flt) (hx : Fcs W lv x.faces) (hsh : Short x) (h12 : x.faces.length ≤ 12) (ht : Tab W) (hr : readLn ((x.faces.map askG).map Gl.name) (textP x) = .error f) (he : f.err ≠ 0) :
    Calls Tryz.prog 11 #[lnV x lv] W fun e w' => e = .returned (.string (⟨#[]⟩)) ∧ More W w' := by
  obtain ⟨ao, c, rfl, -⟩ := grow_form fcs_pos hx
  have hA : ∀ W1, More W W1 → Calls Tryz.prog 23 #[lnV x (.slice ao x.faces.length c)] W1 fun e w' => ∃ v', e = .returned v' ∧ More W1 w' ∧ Gls w' v' (x.faces.map askG) := fun W1 hM => asked_c x _ W1 (hx.up hM) (by omega)
  have hR : ∀ W1 gv, More W W1 → Gls W1 gv (x.faces.map askG) → Calls Tryz.prog 10 #[lnV x (.slice ao x.faces.length c), gv] W1 fun e w' => e = .returned (.bool false) ∧ More W1 w' := fun W1 gv hM hg => rightl_no x _ gv _ W1 f (hx.up hM) hg (by rw [List.length_map]; omega) hsh h12 (Tab.up hM ht) hr he
  have HA := Lib.hid hA
  have HR := Lib.hid hR
  clear hA hR hx hr hsh he
  obtain ⟨nm, ⟨bc, bs⟩, fcs⟩ := x
  dsimp only at HA HR h12 ⊢
  go_enter Tryz.func11, Tryz.ntmps11
  go_wp2_with fail
  go_cut [7] from 3 (fun u wr => u = .bool true ∧ More (W.alloc (.cells #[.string (bsOf nm), .int .i64 bc, .int .i64 bs, .slice ao fcs.length c] 30)) wr)
  case first =>
    go_region_law (first | (go_simp; go_at_call 23; (refine Calls.mono (HA.out _ (by repeat (first | exact More.refl _ | refine More.alloc ?_ _ | refine More.more ?_ _ | refine More.drew ?_ | refine More.drewN ?_ _))) ?_); rintro e w' ⟨gv, rfl, ⟨r1, rfl⟩, hgv⟩) | (go_simp; go_at_call 10; (refine Calls.mono (HR.out _ gv (by repeat (first | exact More.refl _ | refine More.alloc ?_ _ | refine More.more ?_ _ | refine More.drew ?_ | refine More.drewN ?_ _)) (by first | exact hgv | (simp only [more_more] at hgv; exact hgv))) ?_); rintro e w' ⟨rfl, r2, rfl⟩))
    all_goals go_wp2_with fail
    all_goals go_meet
    all_goals exact ⟨rfl, (by repeat (first | exact More.refl _ | refine More.alloc ?_ _ | refine More.more ?_ _ | refine More.drew ?_ | refine More.drewN ?_ _))⟩
  case rest =>
    obtain ⟨rfl, s9, rfl⟩ := hcut
    go_wp2_with fail
    go_returns
    exact ⟨rfl, (by repeat (first | exact More.refl _ | refine More.alloc ?_ _ | refine More.more ?_ _ | refine More.drew ?_ | refine More.drewN ?_ _))⟩

end Go.Proofs.YtgikkcnpnnbgdaaGreatDoor

