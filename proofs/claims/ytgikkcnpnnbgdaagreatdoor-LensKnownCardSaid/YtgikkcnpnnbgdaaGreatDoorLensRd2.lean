/-
  A lens's reader in memory: numbers within their bounds, names, terms.
-/
import Derived.Test.YtgikkcnpnnbgdaaGreatDoorLensRd
namespace Go.Proofs.YtgikkcnpnnbgdaaGreatDoor
set_option linter.unusedVariables false
open Go.ChangeShapes Go.WideShapes Go.ChangeAt Go.RowKit

set_option maxHeartbeats 4000000 in
theorem above_m (X : World) (v : Value) (σ : RdS) {W : World} {W' : Value → World} {R : Rest} (hm : RdMoved X v σ (posS σ).2 W W' R) (hf : FineS σ) (hv : GRow tk3 3 X v σ.ts) :
    Calls Tryz.prog 45 #[.pointer (some ⟨X.heap.size, 0, none⟩)] W fun en w' => en = .returned (decV (posS σ).1) ∧ ∃ v', More (W' v') w' ∧ GRow tk3 3 X v' (posS σ).2.ts := by
  obtain ⟨rfl, hW'⟩ := hm.form
  clear hm
  have HW := Lib.hid hW'
  clear hW'
  obtain ⟨⟨⟨c, s⟩, ⟨kd, tx, L, C⟩, τ⟩, ht⟩ : ∃ x, numS σ = x := ⟨_, rfl⟩
  have HT := Lib.hid ht
  clear ht
  go_enter Tryz.func45, Tryz.ntmps45
  go_wp2_with fail
  go_at_call 66
  refine Calls.mono (number_m X v σ (by intro v'; (repeat (first | exact Moved.self | apply Moved.alloc | apply Moved.more | apply Moved.drew))) hf hv) ?_
  rintro en w' ⟨rfl, v1, ⟨r, rfl⟩, h1⟩
  rw [HT.out] at h1 ⊢
  dsimp only at h1 ⊢
  have HV := Lib.hid h1
  clear h1
  by_cases hc : c ≤ 0
  · have e1 : posS σ = (⟨c, s⟩, failS 1 L C τ) := by unfold posS; rw [HT.out]; dsimp only; rw [if_pos hc]
    have HE := Lib.hid e1
    clear e1 HT
    go_wp2_with (first | (go_at_call 49; (refine Calls.mono (fail_m 1 L C X v1 τ (by (repeat (first | exact Moved.self | apply Moved.alloc | apply Moved.more | apply Moved.drew)))) ?_); rintro e w' ⟨rfl, rfl⟩))
    go_returns
    rw [HE.out]
    refine ⟨rfl, v1, ?_, (show GRow tk3 3 X v1 (failS 1 L C τ).ts by rw [ts_fail]; exact HV.out)⟩
    rw [HW.out, HE.out]
    exact (by repeat (first | exact More.refl _ | refine plus_more ?_ | refine More.alloc ?_ _ | refine More.more ?_ _ | refine More.drew ?_ | refine More.drewN ?_ _))
  · have e1 : posS σ = (⟨c, s⟩, τ) := by unfold posS; rw [HT.out]; dsimp only; rw [if_neg hc]
    have HE := Lib.hid e1
    clear e1 HT
    go_wp2_with fail
    go_returns
    rw [HE.out]
    refine ⟨rfl, v1, ?_, HV.out⟩
    rw [HW.out, HE.out]
    exact (by repeat (first | exact More.refl _ | refine plus_more ?_ | refine More.alloc ?_ _ | refine More.more ?_ _ | refine More.drew ?_ | refine More.drewN ?_ _))

set_option maxHeartbeats 4000000 in
theorem thick_m (X : World) (v : Value) (σ : RdS) {W : World} {W' : Value → World} {R : Rest} (hm : RdMoved X v σ (thkS σ).2 W W' R) (hf : FineS σ) (hv : GRow tk3 3 X v σ.ts) :
    Calls Tryz.prog 88 #[.pointer (some ⟨X.heap.size, 0, none⟩)] W fun en w' => en = .returned (decV (thkS σ).1) ∧ ∃ v', More (W' v') w' ∧ GRow tk3 3 X v' (thkS σ).2.ts := by
  obtain ⟨rfl, hW'⟩ := hm.form
  clear hm
  have HW := Lib.hid hW'
  clear hW'
  obtain ⟨⟨⟨c, s⟩, ⟨kd, tx, L, C⟩, τ⟩, ht⟩ : ∃ x, numS σ = x := ⟨_, rfl⟩
  have HT := Lib.hid ht
  clear ht
  go_enter Tryz.func88, Tryz.ntmps88
  go_wp2_with fail
  go_at_call 66
  refine Calls.mono (number_m X v σ (by intro v'; (repeat (first | exact Moved.self | apply Moved.alloc | apply Moved.more | apply Moved.drew))) hf hv) ?_
  rintro en w' ⟨rfl, v1, ⟨r, rfl⟩, h1⟩
  rw [HT.out] at h1 ⊢
  dsimp only at h1 ⊢
  have HV := Lib.hid h1
  clear h1
  by_cases hc : c < 0
  · have e1 : thkS σ = (⟨c, s⟩, failS 1 L C τ) := by unfold thkS; rw [HT.out]; dsimp only; rw [if_pos hc]
    have HE := Lib.hid e1
    clear e1 HT
    go_wp2_with (first | (go_at_call 49; (refine Calls.mono (fail_m 1 L C X v1 τ (by (repeat (first | exact Moved.self | apply Moved.alloc | apply Moved.more | apply Moved.drew)))) ?_); rintro e w' ⟨rfl, rfl⟩))
    go_returns
    rw [HE.out]
    refine ⟨rfl, v1, ?_, (show GRow tk3 3 X v1 (failS 1 L C τ).ts by rw [ts_fail]; exact HV.out)⟩
    rw [HW.out, HE.out]
    exact (by repeat (first | exact More.refl _ | refine plus_more ?_ | refine More.alloc ?_ _ | refine More.more ?_ _ | refine More.drew ?_ | refine More.drewN ?_ _))
  · have e1 : thkS σ = (⟨c, s⟩, τ) := by unfold thkS; rw [HT.out]; dsimp only; rw [if_neg hc]
    have HE := Lib.hid e1
    clear e1 HT
    go_wp2_with fail
    go_returns
    rw [HE.out]
    refine ⟨rfl, v1, ?_, HV.out⟩
    rw [HW.out, HE.out]
    exact (by repeat (first | exact More.refl _ | refine plus_more ?_ | refine More.alloc ?_ _ | refine More.more ?_ _ | refine More.drew ?_ | refine More.drewN ?_ _))

set_option maxHeartbeats 4000000 in
theorem glass_m (g : Value) (G : List Gl) (X : World) (v : Value) (σ : RdS) {W : World} {W' : Value → World} {R : Rest} (hm : RdMoved X v σ (glsS (G.map Gl.name) σ).2 W W' R) (hg : Gls X g G) (hG : G.length ≤ 1000000) (hf : FineS σ) (hv : GRow tk3 3 X v σ.ts) :
    Calls Tryz.prog 90 #[.pointer (some ⟨X.heap.size, 0, none⟩), g] W fun en w' => en = .returned (.string (bsOf (glsS (G.map Gl.name) σ).1)) ∧ ∃ v', More (W' v') w' ∧ GRow tk3 3 X v' (glsS (G.map Gl.name) σ).2.ts := by
  obtain ⟨rfl, hW'⟩ := hm.form
  clear hm
  have HW := Lib.hid hW'
  clear hW'
  have hlen := num_len (k := 1) hf
  obtain ⟨⟨⟨kd, tx, L, C⟩, τ⟩, ht⟩ : ∃ x, takeS 1 σ = x := ⟨_, rfl⟩
  rw [ht] at hlen
  dsimp only at hlen
  have hlen : tx.length ≤ 1000000 := by omega
  have HT := Lib.hid ht
  clear ht
  obtain ⟨ga, gc, rfl, -⟩ := grow_form gls_pos hg
  have HG := Lib.hid hg
  clear hg
  go_enter Tryz.func90, Tryz.ntmps90
  go_wp2_with fail
  go_at_call 44
  refine Calls.mono (take_m 1 X v σ (by intro v'; (repeat (first | exact Moved.self | apply Moved.alloc | apply Moved.more | apply Moved.drew))) hf hv) ?_
  rintro en w' ⟨rfl, v1, ⟨r, rfl⟩, h1⟩
  rw [HT.out] at h1 ⊢
  dsimp only at h1 ⊢
  have HV := Lib.hid h1
  clear h1
  obtain ⟨gf, hgf⟩ : ∃ gf, findG tx G = gf := ⟨_, rfl⟩
  obtain ⟨nm, b0, b1, b2, c0, c1, c2⟩ := gf
  have HF := Lib.hid hgf
  clear hgf
  have hall : ∀ (r' : Rest), Gls (more (more (X.alloc (rdO v1 τ)) R) r') (.slice ga G.length gc) G := fun r' => GRow.more (GRow.more (GRow.alloc HG.out))
  have HA := Lib.hid hall
  clear hall
  cases hh : hasName tx G with
  | true =>
    have hkn : knownG (G.map Gl.name) tx = true := by unfold knownG; rw [← has_same, hh]; rfl
    have e1 : glsS (G.map Gl.name) σ = (tx, τ) := by unfold glsS; rw [HT.out]; dsimp only; rw [if_pos hkn]
    have HE := Lib.hid e1
    have HH := Lib.hid hh
    clear e1 HT hkn hh
    go_wp2_with (first | (go_at_call 72; (refine Calls.mono (find_c _ G tx _ (by (repeat (first | assumption | with_reducible apply GRow.more | with_reducible apply GRow.alloc | with_reducible apply GRow.drew | with_reducible apply GRow.drewN))) hG hlen) ?_); rintro e w' ⟨rfl, r5, rfl⟩; rw [HF.out, HH.out]))
    go_returns
    rw [HE.out]
    refine ⟨rfl, v1, ?_, HV.out⟩
    rw [HW.out, HE.out]
    exact (by repeat (first | exact More.refl _ | refine plus_more ?_ | refine More.alloc ?_ _ | refine More.more ?_ _ | refine More.drew ?_ | refine More.drewN ?_ _))
  | false =>
    by_cases ha : tx = airT
    · have hkn : knownG (G.map Gl.name) tx = true := by unfold knownG; rw [decide_eq_true ha, Bool.or_true]
      have e1 : glsS (G.map Gl.name) σ = (tx, τ) := by unfold glsS; rw [HT.out]; dsimp only; rw [if_pos hkn]
      have hq : (tx != [97, 105, 114]) = false := by rw [ha]; rfl
      have hq' : (tx == [97, 105, 114]) = true := by rw [ha]; rfl
      have HE := Lib.hid e1
      have HH := Lib.hid hh
      clear e1 HT hkn hh ha
      go_wp2_with (first | (go_at_call 72; (refine Calls.mono (find_c _ G tx _ (by (repeat (first | assumption | with_reducible apply GRow.more | with_reducible apply GRow.alloc | with_reducible apply GRow.drew | with_reducible apply GRow.drewN))) hG hlen) ?_); rintro e w' ⟨rfl, r5, rfl⟩; rw [HF.out, HH.out]))
      go_returns
      rw [HE.out]
      refine ⟨rfl, v1, ?_, HV.out⟩
      rw [HW.out, HE.out]
      exact (by repeat (first | exact More.refl _ | refine plus_more ?_ | refine More.alloc ?_ _ | refine More.more ?_ _ | refine More.drew ?_ | refine More.drewN ?_ _))
    · have hkn : ¬ knownG (G.map Gl.name) tx = true := by unfold knownG; rw [← has_same, hh, decide_eq_false ha]; decide
      have e1 : glsS (G.map Gl.name) σ = (tx, failS 4 L C τ) := by unfold glsS; rw [HT.out]; dsimp only; rw [if_neg hkn]
      have hq : (tx != [97, 105, 114]) = true := by simpa [airT] using ha
      have hq' : (tx == [97, 105, 114]) = false := by simpa [airT] using ha
      have HE := Lib.hid e1
      have HH := Lib.hid hh
      clear e1 HT hkn hh ha
      go_wp2_with (first | (go_at_call 72; (refine Calls.mono (find_c _ G tx _ (by (repeat (first | assumption | with_reducible apply GRow.more | with_reducible apply GRow.alloc | with_reducible apply GRow.drew | with_reducible apply GRow.drewN))) hG hlen) ?_); rintro e w' ⟨rfl, r5, rfl⟩; rw [HF.out, HH.out]) | (go_at_call 49; (refine Calls.mono (fail_m 4 L C X v1 τ (by (repeat (first | exact Moved.self | apply Moved.alloc | apply Moved.more | apply Moved.drew)))) ?_); rintro e w' ⟨rfl, rfl⟩))
      go_returns
      rw [HE.out]
      refine ⟨rfl, v1, ?_, (show GRow tk3 3 X v1 (failS 4 L C τ).ts by rw [ts_fail]; exact HV.out)⟩
      rw [HW.out, HE.out]
      exact (by repeat (first | exact More.refl _ | refine plus_more ?_ | refine More.alloc ?_ _ | refine More.more ?_ _ | refine More.drew ?_ | refine More.drewN ?_ _))

set_option maxHeartbeats 4000000 in
theorem term_m (wd : List UInt8) (X : World) (v : Value) (σ : RdS) {W : World} {W' : Value → World} {R : Rest} (hm : RdMoved X v σ (trmS wd σ).2 W W' R) (hf : FineS σ) (hv : GRow tk3 3 X v σ.ts) :
    Calls Tryz.prog 91 #[.pointer (some ⟨X.heap.size, 0, none⟩), .string (bsOf wd)] W fun en w' => en = .returned (decV (trmS wd σ).1) ∧ ∃ v', More (W' v') w' ∧ GRow tk3 3 X v' (trmS wd σ).2.ts := by
  obtain ⟨rfl, hW'⟩ := hm.form
  clear hm
  have HW := Lib.hid hW'
  clear hW'
  have hf0 := hf
  have hv0 := hv
  obtain ⟨ao, cp, rfl, h0⟩ := grow_form (fun _ => by rw [tk3_len]; decide) hv
  have hhead : ∃ t r, σ.ts = t :: r ∧ headX σ = t.text := by
    unfold headX
    cases hts : σ.ts with
    | nil => exact absurd hts hf.1
    | cons t r => exact ⟨t, r, rfl, rfl⟩
  obtain ⟨t, rr, hts, hhx⟩ := hhead
  have hpos : 0 < σ.ts.length := by rw [hts]; simp
  obtain ⟨b, o, rfl, hb, hd⟩ := h0 hpos
  have cc := hd 0 t (by rw [hts]; rfl) 1 _ rfl
  simp only [Nat.zero_mul, Nat.zero_add] at cc
  obtain ⟨tx, htx⟩ : ∃ tx, t.text = tx := ⟨_, rfl⟩
  rw [htx] at cc hhx
  have HD := Lib.hid hd
  have HX := Lib.hid hhx
  have HF := Lib.hid hf0
  have HV0 := Lib.hid hv0
  clear hd h0 hts htx hhx hf hf0 hv hv0
  by_cases hw : tx = wd
  · have hq : (tx == wd) = true := by simpa using hw
    have e0 : trmS wd σ = ((numS (takeS 1 σ).2).1, if (numS (takeS 1 σ).2).1.c = 0 then failS 1 (numS (takeS 1 σ).2).2.1.line (numS (takeS 1 σ).2).2.1.col (numS (takeS 1 σ).2).2.2 else (numS (takeS 1 σ).2).2.2) := by unfold trmS; rw [if_pos (HX.out.trans hw)]
    obtain ⟨⟨t1, τ1⟩, ht1⟩ : ∃ x, takeS 1 σ = x := ⟨_, rfl⟩
    obtain ⟨⟨⟨c, s⟩, ⟨kd, tx2, L, C⟩, τ⟩, ht⟩ : ∃ x, numS τ1 = x := ⟨_, rfl⟩
    have hf1 : FineS τ1 := by
      have := HF.out.take (k := 1) (by decide)
      rwa [ht1] at this
    rw [ht1] at e0
    dsimp only at e0
    rw [ht] at e0
    dsimp only at e0
    have HT1 := Lib.hid ht1
    have HT := Lib.hid ht
    have HE0 := Lib.hid e0
    clear ht1 ht e0 hw
    go_enter Tryz.func91, Tryz.ntmps91
    go_wp2_with fail
    go_at_call 44
    refine Calls.mono (take_m 1 X _ σ (by intro v'; (repeat (first | exact Moved.self | apply Moved.alloc | apply Moved.more | apply Moved.drew))) HF.out HV0.out) ?_
    rintro en w' ⟨rfl, v1, ⟨r, rfl⟩, h1⟩
    rw [HT1.out] at h1 ⊢
    dsimp only at h1 ⊢
    obtain ⟨kd1, tx1, L1, C1⟩ := t1
    go_wp2_with fail
    go_at_call 66
    refine Calls.mono (number_m X v1 τ1 (by intro v'; (repeat (first | exact Moved.self | apply Moved.alloc | apply Moved.more | apply Moved.drew))) hf1 h1) ?_
    rintro en w' ⟨rfl, v2, ⟨r2, rfl⟩, h2⟩
    rw [HT.out] at h2 ⊢
    dsimp only at h2 ⊢
    have HV := Lib.hid h2
    clear h2 h1 HT HT1
    by_cases hc : c = 0
    · have e1 : trmS wd σ = (⟨c, s⟩, failS 1 L C τ) := by rw [HE0.out, if_pos hc]
      have HE := Lib.hid e1
      have hq2 : (c == 0) = true := by simpa using hc
      clear e1 HE0
      subst hc
      go_wp2_with (first | (go_at_call 49; (refine Calls.mono (fail_m 1 L C X v2 τ (by (repeat (first | exact Moved.self | apply Moved.alloc | apply Moved.more | apply Moved.drew)))) ?_); rintro e w' ⟨rfl, rfl⟩))
      go_returns
      rw [HE.out]
      refine ⟨rfl, v2, ?_, (show GRow tk3 3 X v2 (failS 1 L C τ).ts by rw [ts_fail]; exact HV.out)⟩
      rw [HW.out, HE.out]
      exact (by repeat (first | exact More.refl _ | refine plus_more ?_ | refine More.alloc ?_ _ | refine More.more ?_ _ | refine More.drew ?_ | refine More.drewN ?_ _))
    · have e1 : trmS wd σ = (⟨c, s⟩, τ) := by rw [HE0.out, if_neg hc]
      have HE := Lib.hid e1
      have hq2 : (c == 0) = false := by simpa using hc
      clear e1 HE0 hc
      go_wp2_with fail
      go_returns
      rw [HE.out]
      refine ⟨rfl, v2, ?_, HV.out⟩
      rw [HW.out, HE.out]
      exact (by repeat (first | exact More.refl _ | refine plus_more ?_ | refine More.alloc ?_ _ | refine More.more ?_ _ | refine More.drew ?_ | refine More.drewN ?_ _))
  · have hq : (tx == wd) = false := by simpa using hw
    have e0 : trmS wd σ = (D0, σ) := by unfold trmS; rw [if_neg (fun h => hw (HX.out.symm.trans h))]
    have HE := Lib.hid e0
    clear e0 hw
    go_enter Tryz.func91, Tryz.ntmps91
    go_wp2_with fail
    go_returns
    rw [HE.out]
    refine ⟨rfl, _, ?_, HV0.out⟩
    rw [HW.out, HE.out]
    exact (by repeat (first | exact More.refl _ | refine plus_more ?_ | refine More.alloc ?_ _ | refine More.more ?_ _ | refine More.drew ?_ | refine More.drewN ?_ _))

end Go.Proofs.YtgikkcnpnnbgdaaGreatDoor

