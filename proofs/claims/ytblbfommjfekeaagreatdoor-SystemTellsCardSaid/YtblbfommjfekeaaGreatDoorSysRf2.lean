/-
  The reference's lenses: a face that may be, a lens that may be.
-/
import Derived.Test.YtblbfommjfekeaaGreatDoorSysRf1
import Derived.Test.YtblbfommjfekeaaGreatDoorGl
namespace Go.Proofs.YtblbfommjfekeaaGreatDoor
set_option linter.unusedVariables false
open Go.ChangeShapes Go.WideShapes Go.ChangeAt Go.RowKit

theorem size_less (a b : Dec) (ha : decRight a = true) (hb : decRight b = true) : decLess ⟨max a.c (-a.c), a.s⟩ b = sizeLess a b := by
  obtain ⟨⟨h1, h2⟩, h3, h4, h5⟩ := decRight_bd ha
  obtain ⟨⟨k1, k2⟩, k3, k4, -⟩ := decRight_bd hb
  have hr : decRight ⟨max a.c (-a.c), a.s⟩ = true := by
    obtain ⟨c, s⟩ := a
    dsimp only at *
    unfold decRight at ha ⊢
    dsimp only at ha ⊢
    have em : (max c (-c)).tmod 10 = c.tmod 10 ∨ (max c (-c)).tmod 10 = -(c.tmod 10) := by
      rcases (show max c (-c) = c ∨ max c (-c) = -c by omega) with e | e <;> rw [e]
      · exact .inl rfl
      · exact .inr (Int.neg_tmod _ _)
    simp only [Bool.and_eq_true, Bool.or_eq_true, decide_eq_true_eq, ne_eq, Bool.not_eq_true', beq_eq_false_iff_ne] at ha ⊢
    omega
  unfold decLess sizeLess
  rw [hr, hb, Bool.true_and, Bool.true_and]
  have e : max a.c (-a.c) = (a.c.natAbs : Int) := by omega
  rw [e]
  rfl
theorem named_is (t : List UInt8) (l : List Gl) : hasName t l = decide (t ∈ l.map Gl.name) := by
  unfold hasName
  rw [Bool.eq_iff_iff, List.any_eq_true, decide_eq_true_iff, List.mem_map]
  simp only [beq_iff_eq]

set_option maxHeartbeats 16000000 in
set_option maxRecDepth 100000 in
theorem rface8_c (f : Fc) (g : Value) (G : List Gl) (W : World) (hok : OkFc f) (hg : Gls W g G) (hG : G.length ≤ 1000000) :
    Calls Tryz.prog 94 #[fcV f, g] W fun e w' => e = .returned (.bool (knownF (G.map Gl.name) f)) ∧ More W w' := by
  obtain ⟨ga, gc, rfl, -⟩ := grow_form gls_pos hg
  obtain ⟨ha, hap, ht, htp, hr, hgl, hk, h4, h6, hb⟩ := hok
  obtain ⟨fs, fr, fa, ft, fk, fp, fq, fg⟩ := f
  dsimp only at ha hap ht htp hr hgl hk h4 h6 hb
  cases fs with
  | true =>
    obtain ⟨rfl, rfl, rfl, rfl, rfl⟩ := hb rfl
    clear hb hr hgl hk h4 h6 hg
    have q1 : decide (0 < fa.c) = true := by simpa using hap
    have z0 : isZ ⟨0, 0⟩ = true := rfl
    obtain ⟨fa1, fa2⟩ := fa
    obtain ⟨ft1, ft2⟩ := ft
    dsimp only at q1 htp hap
    show Calls _ _ _ _ fun e w' => e = .returned (.bool true) ∧ _
    go_enter Tryz.func94, Tryz.ntmps94
    go_wp2_with (first | (go_at_call 52; (with_reducible refine (zero8_c _ _).mono ?_); rintro e w' ⟨rfl, r, rfl⟩) | (go_at_call 52; (with_reducible refine (zero8_c ⟨_, _⟩ _).mono ?_); rintro e w' ⟨rfl, r, rfl⟩) | (go_at_call 92; (with_reducible refine (printable8_c _ (by assumption) _).mono ?_); rintro e w' ⟨rfl, r, rfl⟩) | (go_at_call 92; (with_reducible refine (printable8_c ⟨_, _⟩ (by assumption) _).mono ?_); rintro e w' ⟨rfl, r, rfl⟩) | (go_at_call 93; (with_reducible refine (above8_c _ _).mono ?_); rintro e w' ⟨rfl, r, rfl⟩) | (go_at_call 93; (with_reducible refine (above8_c ⟨_, _⟩ _).mono ?_); rintro e w' ⟨rfl, r, rfl⟩) | (go_at_call 126; (with_reducible refine (decLess8_c _ _ _).mono ?_); rintro e w' ⟨rfl, r, rfl⟩) | (go_at_call 126; (with_reducible refine (decLess8_c _ ⟨_, _⟩ _).mono ?_); rintro e w' ⟨rfl, r, rfl⟩) | (go_at_call 126; (with_reducible refine (decLess8_c ⟨_, _⟩ _ _).mono ?_); rintro e w' ⟨rfl, r, rfl⟩) | (go_at_call 126; (with_reducible refine (decLess8_c ⟨_, _⟩ ⟨_, _⟩ _).mono ?_); rintro e w' ⟨rfl, r, rfl⟩) | (go_at_call 127; (with_reducible refine (size8_c _ (by (try dsimp only); omega) (by (try dsimp only); omega) _).mono ?_); rintro e w' ⟨rfl, r, rfl⟩) | (go_at_call 127; (with_reducible refine (size8_c ⟨_, _⟩ (by (try dsimp only); omega) (by (try dsimp only); omega) _).mono ?_); rintro e w' ⟨rfl, r, rfl⟩))
    go_returns
    exact ⟨rfl, (by repeat (first | exact More.refl _ | refine More.alloc ?_ _ | refine More.more ?_ _ | refine More.drew ?_ | refine More.drewN ?_ _))⟩
  | false =>
    have hr1 := (hr rfl).1
    have hr2 := (hr rfl).2
    have hgl1 := hgl rfl
    have hk1 := hk rfl
    have h41 := h4 rfl
    have h61 := h6 rfl
    clear hb hr hgl hk h4 h6
    have q1 : decide (0 < fa.c) = true := by simpa using hap
    have hlen : fg.length ≤ 1000000 := by
      obtain ⟨c, w, e, -, -, hl⟩ := hgl1
      rw [e, List.length_cons]
      omega
    obtain ⟨⟨r1, r2⟩, -⟩ := decRight_bd hr1.1
    have hsl := size_less fr fa hr1.1 ha.1
    have hkn : knownF (G.map Gl.name) ⟨false, fr, fa, ft, fk, fp, fq, fg⟩ = (hasName fg G || (fg == [97, 105, 114])) := by
      show (false || (decide _ || decide _)) = _
      rw [named_is, Bool.false_or]
      congr 1
      rw [Bool.eq_iff_iff, decide_eq_true_iff, beq_iff_eq]
      rfl
    rw [hkn]
    obtain ⟨N, hN⟩ : ∃ N, hasName fg G = N := ⟨_, rfl⟩
    obtain ⟨A, hA⟩ : ∃ N, (fg == [97, 105, 114]) = N := ⟨_, rfl⟩
    obtain ⟨GF, hGF⟩ : ∃ N, findG fg G = N := ⟨_, rfl⟩
    have HF := Lib.hid (show ∀ W1, More W W1 → Calls Tryz.prog 56 #[.slice ga G.length gc, .string (bsOf fg)] W1 fun e w' => e = .returned (.tuple #[glV GF, .bool N]) ∧ More W1 w' from fun W1 hM => by
      have h := rfind8_c (.slice ga G.length gc) G fg W1 (hg.up hM) hG hlen
      rw [hN, hGF] at h
      exact h)
    have HW := Lib.hid (show ∀ W1, Calls Tryz.prog 91 #[.string (bsOf fg)] W1 fun e w' => e = .returned (.bool true) ∧ More W1 w' from fun W1 => word8_c fg hgl1 W1)
    rw [hN, hA]
    clear hN hGF hg hkn hgl1
    obtain ⟨fr1, fr2⟩ := fr
    obtain ⟨fa1, fa2⟩ := fa
    obtain ⟨ft1, ft2⟩ := ft
    obtain ⟨fk1, fk2⟩ := fk
    obtain ⟨fp1, fp2⟩ := fp
    obtain ⟨fq1, fq2⟩ := fq
    obtain ⟨g1, ⟨g2, g3⟩, ⟨g4, g5⟩, ⟨g6, g7⟩, ⟨g8, g9⟩, ⟨ga1, ga2⟩, ⟨gb1, gb2⟩⟩ := GF
    dsimp only at q1 htp hap hr2 r1 r2 hsl
    have hcase : ((fr1 == 0) = true) ∨ ((fr1 == 0) = false ∧ decLess ⟨max fr1 (-fr1), fr2⟩ ⟨fa1, fa2⟩ = false) := by
      by_cases h0 : fr1 = 0
      · exact .inl (by simpa using h0)
      · right
        refine ⟨by simpa using h0, ?_⟩
        rw [hsl]
        exact hr2.resolve_left h0
    clear hr2 hsl
    go_enter Tryz.func94, Tryz.ntmps94
    go_wp2_with (first | (go_at_call 56; (refine Calls.mono (HF.out _ (by repeat (first | exact More.refl _ | refine More.alloc ?_ _ | refine More.more ?_ _ | refine More.drew ?_ | refine More.drewN ?_ _))) ?_); rintro e w' ⟨rfl, r7, rfl⟩) | (first | (go_at_call 92; (with_reducible refine (printable8_c _ (by assumption) _).mono ?_); rintro e w' ⟨rfl, r, rfl⟩) | (go_at_call 92; (with_reducible refine (printable8_c ⟨_, _⟩ (by assumption) _).mono ?_); rintro e w' ⟨rfl, r, rfl⟩) | (go_at_call 93; (with_reducible refine (above8_c _ _).mono ?_); rintro e w' ⟨rfl, r, rfl⟩) | (go_at_call 93; (with_reducible refine (above8_c ⟨_, _⟩ _).mono ?_); rintro e w' ⟨rfl, r, rfl⟩)))
    cases N <;> cases A <;> rcases hcase with hz | ⟨hz, hd⟩
    all_goals
      (first | (with_reducible refine wp_more_quick_m (id := 6) ?_ ?_ ?_) | (refine wp_more_quick (id := 6) ?_ ?_ ?_))
      · kernel_rfl
      · kernel_rfl
      (try simp only [List.append_eq, List.cons_append, List.nil_append])
      (repeat (any_goals (first | go_big_quiet_step ((first | (go_at_call 91; (with_reducible apply quiet_call); exact HW.out _) | (go_at_call 92; (with_reducible apply quiet_call); (first | exact printable8_c _ hr1 _ | exact printable8_c _ hk1 _ | exact printable8_c _ h41 _ | exact printable8_c _ h61 _)) | (go_at_call 127; (with_reducible apply quiet_call); exact size8_c ⟨fr1, fr2⟩ r1 r2 _) | (go_at_call 126; (with_reducible apply quiet_call); exact decLess8_c ⟨_, _⟩ ⟨_, _⟩ _))))))
      (with_reducible refine wpQuiet_nil ?_)
      intro r
      go_wp2_with fail
      go_returns
      exact ⟨by simp_all, (by repeat (first | exact More.refl _ | refine More.alloc ?_ _ | refine More.more ?_ _ | refine More.drew ?_ | refine More.drewN ?_ _))⟩

set_option maxHeartbeats 16000000 in
set_option maxRecDepth 100000 in
theorem rlens8_c (x : Ln) (lv g : Value) (G : List Gl) (W : World) (hok : OkLn x) (hx : Fcs W lv x.faces) (hg : Gls W g G) (hG : G.length ≤ 1000000) :
    Calls Tryz.prog 49 #[lnV x lv, g] W fun e w' => e = .returned (.bool (x.faces.all (knownF (G.map Gl.name)))) ∧ More W w' := by
  obtain ⟨la, lc, rfl, -⟩ := grow_form fcs_pos hx
  obtain ⟨ga, gc, rfl, -⟩ := grow_form gls_pos hg
  obtain ⟨h1, h2, h3, h4, h5, h6⟩ := hok
  obtain ⟨nm, bk, fcs⟩ := x
  dsimp only at h1 h2 h3 h4 h5 h6 hx ⊢
  have q1 : decide (0 < bk.c) = true := by simpa using h3
  obtain ⟨bc, bs⟩ := bk
  dsimp only at q1 h3
  have HW := Lib.hid (show ∀ W1, Calls Tryz.prog 91 #[.string (bsOf nm)] W1 fun e w' => e = .returned (.bool true) ∧ More W1 w' from fun W1 => word8_c nm h1 W1)
  have HF := Lib.hid (show ∀ f ∈ fcs, ∀ W1, More W W1 → Calls Tryz.prog 94 #[fcV f, .slice ga G.length gc] W1 fun e w' => e = .returned (.bool (knownF (G.map Gl.name) f)) ∧ More W1 w' from fun f hf W1 hM => rface8_c f _ G W1 (h4 f hf) (hg.up hM) hG)
  have HX := Lib.hid hx
  have HS := Lib.hid h6
  clear h1 h4 h6 hx hg
  have hn : ¬ (12 : Int) < ((fcs.length : Nat) : Int) := by omega
  go_enter Tryz.func49, Tryz.ntmps49
  go_wp2_with (first | (go_at_call 91; (refine Calls.mono (HW.out _) ?_); rintro e w' ⟨rfl, r7, rfl⟩) | (first | (go_at_call 92; (with_reducible refine (printable8_c _ (by assumption) _).mono ?_); rintro e w' ⟨rfl, r, rfl⟩) | (go_at_call 92; (with_reducible refine (printable8_c ⟨_, _⟩ (by assumption) _).mono ?_); rintro e w' ⟨rfl, r, rfl⟩) | (go_at_call 93; (with_reducible refine (above8_c _ _).mono ?_); rintro e w' ⟨rfl, r, rfl⟩) | (go_at_call 93; (with_reducible refine (above8_c ⟨_, _⟩ _).mono ?_); rintro e w' ⟨rfl, r, rfl⟩)))
  go_loopw [5, 6] (fun t i wr => ∃ k : Nat, k ≤ fcs.length ∧ i = .int .i64 k ∧ t = .bool (!((fcs.take k).all Fc.stop)) ∧ (fcs.take k).all (knownF (G.map Gl.name)) = true ∧ More (W.alloc (.cells #[.string (bsOf nm), .int .i64 bc, .int .i64 bs, .slice la fcs.length lc] 28)) wr) (fun _ i _ => fcs.length - (intOf i).toNat)
  case atStart => exact ⟨0, by omega, rfl, rfl, rfl, (by repeat (first | exact More.refl _ | refine More.alloc ?_ _ | refine More.more ?_ _ | refine More.drew ?_ | refine More.drewN ?_ _))⟩
  case round =>
    obtain ⟨k, hk, rfl, rfl, ha, s, rfl⟩ := hrel
    have HA := Lib.hid ha
    clear ha
    by_cases hkl : k < fcs.length
    · obtain ⟨f, hf⟩ : ∃ f, fcs[k]? = some f := ⟨fcs[k], List.getElem?_eq_getElem hkl⟩
      obtain ⟨b, off, rfl, hb, hL, -⟩ := fcs_at (w := W) HX.out hf
      have f0 := gcell HX.out hf 0 _ rfl
      rw [Nat.add_zero] at f0
      have hL2 : ∀ r, (loadWhole 59 ⟨b, off + k * 14, none⟩).run Tryz.prog (more (W.alloc (.cells #[.string (bsOf nm), .int .i64 bc, .int .i64 bs, .slice (some ⟨b, off, none⟩) fcs.length lc] 28)) r) = .ok (fcV f) (more (W.alloc (.cells #[.string (bsOf nm), .int .i64 bc, .int .i64 bs, .slice (some ⟨b, off, none⟩) fcs.length lc] 28)) r) := by
        intro r
        have hM : More W (more (W.alloc (.cells #[.string (bsOf nm), .int .i64 bc, .int .i64 bs, .slice (some ⟨b, off, none⟩) fcs.length lc] 28)) r) := (by repeat (first | exact More.refl _ | refine More.alloc ?_ _ | refine More.more ?_ _ | refine More.drew ?_ | refine More.drewN ?_ _))
        obtain ⟨r', hr⟩ := hM
        rw [hr]
        exact hL _
      have hT : (fcs.take (k + 1)).all Fc.stop = ((fcs.take k).all Fc.stop && f.stop) := by rw [List.take_add_one, hf, List.all_append]; simp
      have hK : (fcs.take (k + 1)).all (knownF (G.map Gl.name)) = knownF (G.map Gl.name) f := by rw [List.take_add_one, hf, List.all_append, HA.out]; simp
      obtain ⟨V, hV⟩ : ∃ V, knownF (G.map Gl.name) f = V := ⟨_, rfl⟩
      have HFf := Lib.hid (HF.out f (List.mem_of_getElem? hf))
      rw [hV] at hK
      have HK := Lib.hid hK
      have HT := Lib.hid hT
      have HF0 := Lib.hid hf
      have HV := Lib.hid hV
      clear hf hK hT hL
      obtain ⟨T, hTT⟩ : ∃ T, (fcs.take k).all Fc.stop = T := ⟨_, rfl⟩
      have HTT := Lib.hid hTT
      rw [hTT]
      clear hTT
      obtain ⟨fs, ⟨fr1, fr2⟩, ⟨fa1, fa2⟩, ⟨ft1, ft2⟩, ⟨fk1, fk2⟩, ⟨fp1, fp2⟩, ⟨fq1, fq2⟩, fg⟩ := f
      have hFF := HFf.out
      rw [hV] at hFF
      have HFG := Lib.hid hFF
      clear hFF hV
      cases V with
      | true =>
        go_wp2_with (first | (go_at_call 94; (refine Calls.mono (HFG.out _ (by repeat (first | exact More.refl _ | refine More.alloc ?_ _ | refine More.more ?_ _ | refine More.drew ?_ | refine More.drewN ?_ _))) ?_); rintro e w' ⟨rfl, r8, rfl⟩))
        all_goals
          go_roundw
          case rel => exact ⟨k + 1, by omega, rfl, by rw [HT.out, HTT.out]; simp_all, HK.out, (by repeat (first | exact More.refl _ | refine More.alloc ?_ _ | refine More.more ?_ _ | refine More.drew ?_ | refine More.drewN ?_ _))⟩
          case measure => simp [intOf] <;> omega
      | false =>
        go_wp2_with (first | (go_at_call 94; (refine Calls.mono (HFG.out _ (by repeat (first | exact More.refl _ | refine More.alloc ?_ _ | refine More.more ?_ _ | refine More.drew ?_ | refine More.drewN ?_ _))) ?_); rintro e w' ⟨rfl, r8, rfl⟩))
        go_returns
        refine ⟨?_, (by repeat (first | exact More.refl _ | refine More.alloc ?_ _ | refine More.more ?_ _ | refine More.drew ?_ | refine More.drewN ?_ _))⟩
        have : fcs.all (knownF (G.map Gl.name)) = false := by
          rw [List.all_eq_false]
          exact ⟨_, List.mem_of_getElem? HF0.out, by rw [HV.out]; simp⟩
        rw [this]
        rfl
    · obtain rfl : k = fcs.length := by omega
      have h1 := HA.out
      have h2 := HS.out
      rw [List.take_length] at h1 ⊢
      rw [h2]
      have HE := Lib.hid h1
      clear h1 h2
      go_wp2_with fail
      go_returns
      exact ⟨by rw [HE.out]; rfl, (by repeat (first | exact More.refl _ | refine More.alloc ?_ _ | refine More.more ?_ _ | refine More.drew ?_ | refine More.drewN ?_ _))⟩
end Go.Proofs.YtblbfommjfekeaaGreatDoor

