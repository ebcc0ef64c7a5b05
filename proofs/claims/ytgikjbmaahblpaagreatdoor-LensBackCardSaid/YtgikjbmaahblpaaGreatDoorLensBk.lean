/-
  LensBack: the walk.
-/
import Derived.Test.YtgikjbmaahblpaaGreatDoorLensBkRd
import Derived.Test.YtgikjbmaahblpaaGreatDoorLensHd
import Derived.Test.YtgikjbmaahblpaaGreatDoorGk
import Derived.Test.YtgikjbmaahblpaaGreatDoorGj
import Derived.Test.YtgikjbmaahblpaaGreatDoorGh
import Derived.Deep.Cut
namespace Go.Proofs.YtgikjbmaahblpaaGreatDoor
set_option linter.unusedVariables false
open Go.ChangeShapes Go.WideShapes Go.ChangeAt Go.RowKit

abbrev wideF : List UInt8 := [32, 35, 32, 49, 10, 10]
def wideS (gap : Int) : List UInt8 := if 0 < gap.tmod 3 then [32, 9, 32] else [32]
theorem wideS_ok (gap : Int) : OkSep (wideS gap) := by
  unfold wideS
  split
  · exact sep_wide
  · exact sep_one
theorem widen_len (gap : Int) (b : UInt8) : (widen (wideS gap) wideF b).length ≤ 6 := by
  unfold widen wideS
  split
  · split <;> decide
  · split <;> simp [wideF]
theorem wideT_len (gap : Int) : ∀ l : List UInt8, (l.flatMap (widen (wideS gap) wideF)).length ≤ 6 * l.length
  | [] => by simp
  | b :: r => by
    have h1 := widen_len gap b
    have h2 := wideT_len gap r
    rw [List.flatMap_cons, List.length_append, List.length_cons]
    omega
theorem wide_next (gap : Int) {l : List UInt8} {k : Nat} (h : k < l.length) : (l.take (k + 1)).flatMap (widen (wideS gap) wideF) = (l.take k).flatMap (widen (wideS gap) wideF) ++ widen (wideS gap) wideF (l.getD k 0) := by
  rw [List.take_add_one, List.getElem?_eq_getElem h, List.flatMap_append, List.getD_eq_getElem?_getD, List.getElem?_eq_getElem h]
  simp
theorem any_next {l : List Fc} {k : Nat} {f : Fc} (h : l[k]? = some f) : (l.take (k + 1)).any (fun f => f.glass == flintT) = ((l.take k).any (fun f => f.glass == flintT) || f.glass == flintT) := by
  rw [List.take_add_one, h, List.any_append]
  simp

theorem readCrown_c (W : World) : Calls Tryz.prog 16 #[.string (bsOf (textG [crownG]))] W fun e w' => ∃ v' X, e = .returned (.tuple #[v', .complex .f64 0 0, .int .i64 0]) ∧ More W X ∧ OwnW X w' X.heap.size 50 13 v' 1 (cellsG crownG) := by
  have hl := textG_len [crownG] crown_okL.ok
  have h := readgo_c (textG [crownG]) (by simp only [List.length_cons, List.length_nil] at hl; omega) W
  rw [readG_back crown_okL] at h
  refine h.mono ?_
  rintro e w' ⟨v', X, rfl, hM, hO⟩
  refine ⟨v', X, ?_, hM, ?_⟩
  · show Ending.returned (.tuple #[_, plV2 0 0, _]) = _
    rw [plV2_zero]
    rfl
  · have e1 : flatC cellsG [crownG] = cellsG crownG := by simp [flatC]
    rw [← e1]
    exact hO

set_option maxHeartbeats 16000000 in
set_option maxRecDepth 100000 in
theorem lensBack_walk (w : World) (a0 : Int) (w0 : (Lit.int .i64 a0).wf = true) (s1 : Value) (l1 : List RawF) (i1 : Raws w s1 l1) (k1 : ∀ f ∈ l1, OkRaw f) (m1 : l1.length ≤ 9223372036854775807)
    (s2 : Value) (l2 : List Int) (i2 : Ints w s2 l2) (k2 : ∀ n ∈ l2, -9223372036854775808 ≤ n ∧ n ≤ 9223372036854775807) (m2 : l2.length ≤ 9223372036854775807) (a3 : Int) (w3 : (Lit.int .i64 a3).wf = true) (ht : Tab w) :
    Calls Tryz.prog 3 #[.int .i64 a0, s1, s2, .int .i64 a3] w fun e w' => e = .returned (.bool true) ∧ More w w' := by
  obtain ⟨b01, b02⟩ := bounds_i64 w0
  obtain ⟨b31, b32⟩ := bounds_i64 w3
  have hplain := back_plain a0 l1 l2
  have hwide := back_wide a0 l1 l2 (wideS_ok a3)
  have hless := back_less a0 l1 l2
  have hok := hand_ok a0 l1 l2
  have hglen := glassesG_len l2
  have hlens : ∀ (u : World) (v : Value), More w u → Gls u v (glassesG l2) → Calls Tryz.prog 10 #[.int .i64 a0, s1, v, .int .i64 12] u fun e w' => ∃ lv, e = .returned (lnV (handLn a0 l1 (glassesG l2) 12) lv) ∧ More u w' ∧ Fcs w' lv (handLn a0 l1 (glassesG l2) 12).faces :=
    fun u v hM hg => lens_c a0 s1 v l1 (glassesG l2) 12 u b01 b02 (i1.up hM) k1 m1 hg (by omega) (by decide)
  obtain ⟨x, hx⟩ : ∃ x, handLn a0 l1 (glassesG l2) 12 = x := ⟨_, rfl⟩
  rw [hx] at hplain hwide hless hok hlens
  have hsh := text_short hok
  have hts := text_same hok
  have htl := textL_len hok
  have hask := lens_back _ hok (ask_known (x := x))
  have hmost := hok.most
  clear hx hok
  rw [← hts] at hplain hwide hless htl hask
  obtain ⟨T, hT⟩ : ∃ T, textP x = T := ⟨_, rfl⟩
  have hprint : ∀ (u : World) (lv : Value), Fcs u lv x.faces → Tab u → Calls Tryz.prog 11 #[lnV x lv] u fun e w' => e = .returned (.string (bsOf T)) ∧ More u w' := by
    intro u lv hF hTab
    rw [← hT]
    exact printl_yes x lv u hF hsh hmost hTab hask
  have hright : ∀ (u : World) (lv g : Value), Fcs u lv x.faces → Gls u g (glassesG l2) → Tab u → Calls Tryz.prog 15 #[lnV x lv, g] u fun e w' => e = .returned (.bool true) ∧ More u w' :=
    fun u lv g hF hg hTab => rightl_yes x lv g (glassesG l2) u hF hg (by omega) hsh hmost hTab hplain
  rw [hT] at hplain hwide hless htl
  have hread : ∀ (u : World) (g : Value), Gls u g (glassesG l2) → Calls Tryz.prog 12 #[.string (bsOf T), g] u fun en w' => ∃ la lc, en = .returned (.tuple #[lnV x (.slice la x.faces.length lc), .complex .f64 0 0, .int .i64 0]) ∧ More u w' ∧ Fcs w' (.slice la x.faces.length lc) x.faces :=
    fun u g hg => readOk_c T g (glassesG l2) x u (by omega) hg (by omega) hplain
  have hreadw : ∀ (Q : List UInt8), Q = T.flatMap (widen (wideS a3) wideF) → Q.length ≤ 4000 → ∀ (u : World) (g : Value), Gls u g (glassesG l2) → Calls Tryz.prog 12 #[.string (bsOf Q), g] u fun en w' => ∃ la lc, en = .returned (.tuple #[lnV x (.slice la x.faces.length lc), .complex .f64 0 0, .int .i64 0]) ∧ More u w' ∧ Fcs w' (.slice la x.faces.length lc) x.faces :=
    fun Q hQ hl u g hg => readOk_c Q g (glassesG l2) x u (by omega) hg (by omega) (by rw [hQ] at hl ⊢; exact hwide hl)
  have hless1 : (x.faces.any fun f => f.glass == flintT) = true → ∀ (u : World) (g : Value), Gls u g (lessG l2) → Calls Tryz.prog 12 #[.string (bsOf T), g] u fun en w' => ∃ la lc t1 t2, en = .returned (.tuple #[.agg #[.string ⟨#[]⟩, .int .i64 0, .int .i64 0, .slice la 0 lc], .complex .f64 t1 t2, .int .i64 4]) ∧ More u w' := by
    intro hu u g hg
    rw [if_pos hu] at hless
    obtain ⟨t, ht⟩ := hless
    refine (readNo_c T g (lessG l2) _ u (by omega) hg (by unfold lessG; rw [List.length_cons, rawsG_len]; omega) ht).mono ?_
    rintro en w' ⟨la, lc, rfl, h⟩
    exact ⟨la, lc, _, _, rfl, h⟩
  have hless2 : (x.faces.any fun f => f.glass == flintT) = false → ∀ (u : World) (g : Value), Gls u g (lessG l2) → Calls Tryz.prog 12 #[.string (bsOf T), g] u fun en w' => ∃ la lc, en = .returned (.tuple #[lnV x (.slice la x.faces.length lc), .complex .f64 0 0, .int .i64 0]) ∧ More u w' ∧ Fcs w' (.slice la x.faces.length lc) x.faces := by
    intro hu u g hg
    rw [if_neg (by rw [hu]; simp)] at hless
    exact readOk_c T g (lessG l2) x u (by omega) hg (by unfold lessG; rw [List.length_cons, rawsG_len]; omega) hless
  have HLENS := Lib.hid hlens
  have HPRINT := Lib.hid hprint
  have HRIGHT := Lib.hid hright
  have HREAD := Lib.hid hread
  have HREADW := Lib.hid hreadw
  have HLESS1 := Lib.hid hless1
  have HLESS2 := Lib.hid hless2
  have HTAB := Lib.hid ht
  clear hlens hprint hright hread hreadw hless1 hless2 ht hplain hwide hless hts hask hsh hT i1 k1 m1
  obtain ⟨nm, ⟨bc, bs⟩, fcs⟩ := x
  dsimp only at HLENS HPRINT HRIGHT HREAD HREADW HLESS1 HLESS2 hmost
  go_enter Tryz.func3, Tryz.ntmps3
  go_wp2_with fail
  go_at_call 9
  refine Calls.mono (glasses_c s2 l2 w i2 k2 m2) ?_
  rintro e u1 ⟨v1, rfl, hM1, hg1⟩
  clear i2 k2 m2
  obtain ⟨ga, ca, rfl, hgc⟩ := grow_form gls_pos hg1
  obtain ⟨N, hN⟩ : ∃ N, (glassesG l2).length = N := ⟨_, rfl⟩
  have hN2 : 2 ≤ N := by rw [← hN]; unfold glassesG; simp
  have hcap := (grow_cap hg1).2
  obtain ⟨gb, go, rfl, hgb, -⟩ := hgc (by omega)
  rw [hN] at hg1 hglen hcap ⊢
  clear hgc
  have HM1 := Lib.hid hM1
  have HG := Lib.hid hg1
  have HN := Lib.hid hN
  clear hM1 hg1 hN
  go_wp2_with fail
  go_at_call 10
  refine Calls.mono (HLENS.out _ _ HM1.out HG.out) ?_
  rintro e u2 ⟨lv, rfl, hM2, hF2⟩
  obtain ⟨la, lc, rfl, -⟩ := grow_form fcs_pos hF2
  have hB : ∀ W', More u2 W' → Gls W' (.slice (some ⟨gb, go, none⟩) N ca) (glassesG l2) ∧ Fcs W' (.slice la fcs.length lc) fcs ∧ Tab W' := fun W' h => ⟨HG.out.up (hM2.trans h), hF2.up h, Tab.up (HM1.out.trans (hM2.trans h)) HTAB.out⟩
  have HB := Lib.hid hB
  have HM2 := Lib.hid (HM1.out.trans hM2)
  clear hB hM2 hF2
  go_wp2_with fail
  go_at_call 11
  refine Calls.mono (HPRINT.out _ _ (HB.out _ (by repeat (first | exact More.refl _ | refine More.alloc ?_ _ | refine More.more ?_ _ | refine More.drew ?_ | refine More.drewN ?_ _))).2.1 (HB.out _ (by repeat (first | exact More.refl _ | refine More.alloc ?_ _ | refine More.more ?_ _ | refine More.drew ?_ | refine More.drewN ?_ _))).2.2) ?_
  rintro e w' ⟨rfl, r1, rfl⟩
  go_wp2_with fail
  go_loopw [12, 13] (fun u i wr => ∃ (k : Nat) (Q : List UInt8), k ≤ T.length ∧ u = .string (bsOf Q) ∧ Q = (T.take k).flatMap (widen (wideS a3) wideF) ∧ i = .int .i64 k ∧ ∃ s, wr = more (u2.alloc (.cells #[.string (bsOf nm), .int .i64 bc, .int .i64 bs, .slice la fcs.length lc] 30)) s) (fun _ i _ => T.length - (intOf i).toNat)
  case atStart => exact ⟨0, [], by omega, rfl, rfl, rfl, _, rfl⟩
  case round =>
    obtain ⟨k, Q, hk, rfl, hQ, rfl, s, rfl⟩ := hrel
    have hq6 : Q.length ≤ 16770 := by
      rw [hQ]
      have h1 := wideT_len a3 (T.take k)
      rw [List.length_take] at h1
      omega
    by_cases hkl : k < T.length
    · have hnext := wide_next a3 hkl
      rw [← hQ] at hnext
      have HQ := Lib.hid hnext
      have q32 : (byteAt T k == 32) = (T.getD k 0 == 32) := byte_is T k 32 (by decide)
      have q10 : (byteAt T k == 10) = (T.getD k 0 == 10) := byte_is T k 10 (by decide)
      have hbd := byteAt_bd T k
      have hsl : ∀ w, (Instr.slice 9 (.string (bsOf T)) (some (.int .i64 k)) (some (.int .i64 (k + 1))) none).run Tryz.prog w = .ok (.string (bsOf [T.getD k 0])) w := by
        intro w
        have h := slice_bs (P := Tryz.prog) (l := T) (j := k) (k := k + 1) 9 (by kernel_rfl) (by omega) (by omega) w
        rw [take_cons hkl (by omega), show k + 1 - (k + 1) = 0 by omega, List.take_zero] at h
        exact h
      clear hQ hnext
      obtain ⟨b, hb⟩ : ∃ b, T.getD k 0 = b := ⟨_, rfl⟩
      rw [hb] at HQ q32 q10 hsl
      have HBY := Lib.hid hb
      clear hb
      by_cases h32 : b = 32
      · subst h32
        have q1 : (byteAt T k == 32) = true := q32
        have q2 : (byteAt T k == 10) = false := q10
        clear q32 q10
        by_cases hg3 : 0 < a3.tmod 3
        · have hw : widen (wideS a3) wideF 32 = [32, 9, 32] := by unfold widen wideS; rw [if_pos rfl, if_pos hg3]
          have HW := Lib.hid hw
          clear hw
          go_wp2_with fail
          go_roundw
          case rel => exact ⟨k + 1, _, by omega, rfl, by rw [HQ.out, HW.out], rfl, s, rfl⟩
          case measure => simp [intOf] <;> omega
        · have hw : widen (wideS a3) wideF 32 = [32] := by unfold widen wideS; rw [if_pos rfl, if_neg hg3]
          have HW := Lib.hid hw
          clear hw
          go_wp2_with fail
          go_roundw
          case rel => exact ⟨k + 1, _, by omega, rfl, by rw [HQ.out, HW.out], rfl, s, rfl⟩
          case measure => simp [intOf] <;> omega
      · have q1 : (byteAt T k == 32) = false := by rw [q32]; simpa using h32
        by_cases h10 : b = 10
        · subst h10
          have q2 : (byteAt T k == 10) = true := q10
          clear q32 q10 h32
          have hw : widen (wideS a3) wideF 10 = wideF := rfl
          have HW := Lib.hid hw
          clear hw
          go_wp2_with fail
          go_roundw
          case rel => exact ⟨k + 1, _, by omega, rfl, by rw [HQ.out, HW.out], rfl, s, rfl⟩
          case measure => simp [intOf] <;> omega
        · have q2 : (byteAt T k == 10) = false := by rw [q10]; simpa using h10
          have hw : widen (wideS a3) wideF b = [b] := by unfold widen; rw [if_neg h32, if_neg h10]
          have HW := Lib.hid hw
          clear hw q32 q10 h32 h10
          go_wp2_with fail
          go_roundw
          case rel => exact ⟨k + 1, _, by omega, rfl, by rw [HQ.out, HW.out], rfl, s, rfl⟩
          case measure => simp [intOf] <;> omega
    · obtain rfl : k = T.length := by omega
      rw [List.take_length] at hQ
      have HQ := Lib.hid hQ
      clear hQ
      go_wp2_with fail
      go_at_call 12
      refine Calls.mono (HREAD.out _ _ (HB.out _ (by repeat (first | exact More.refl _ | refine More.alloc ?_ _ | refine More.more ?_ _ | refine More.drew ?_ | refine More.drewN ?_ _))).1) ?_
      rintro e w' ⟨la1, lc1, rfl, hm3, hF3⟩
      obtain ⟨r2, rfl⟩ : More (u2.alloc (.cells #[.string (bsOf nm), .int .i64 bc, .int .i64 bs, .slice la fcs.length lc] 30)) w' := More.trans (by repeat (first | exact More.refl _ | refine More.alloc ?_ _ | refine More.more ?_ _ | refine More.drew ?_ | refine More.drewN ?_ _)) hm3
      clear hm3
      have HF3 := Lib.hid hF3
      clear hF3
      have z0 : ∀ w, (binOp .neq 33 (.complex .f64 0 0) (.complex .f64 0 0)).run Tryz.prog w = .ok (.bool false) w := fun w => by kernel_rfl
      go_upto_if 100 with (first
        | (go_at_call 13; (refine Calls.mono (known12_c _ (HB.out _ (by repeat (first | exact More.refl _ | refine More.alloc ?_ _ | refine More.more ?_ _ | refine More.drew ?_ | refine More.drewN ?_ _))).2.2) ?_); rintro e w' ⟨rfl, r3, rfl⟩)
        | (go_at_call 14; (refine Calls.mono (same_yes ⟨nm, ⟨bc, bs⟩, fcs⟩ _ _ _ (HF3.out.up (by repeat (first | exact More.refl _ | refine More.alloc ?_ _ | refine More.more ?_ _ | refine More.drew ?_ | refine More.drewN ?_ _))) (HB.out _ (by repeat (first | exact More.refl _ | refine More.alloc ?_ _ | refine More.more ?_ _ | refine More.drew ?_ | refine More.drewN ?_ _))).2.1 (by show fcs.length ≤ _; omega)) ?_); rintro e w' ⟨rfl, r4, rfl⟩)
        | (go_at_call 15; (refine Calls.mono (HRIGHT.out _ _ _ (HB.out _ (by repeat (first | exact More.refl _ | refine More.alloc ?_ _ | refine More.more ?_ _ | refine More.drew ?_ | refine More.drewN ?_ _))).2.1 (HB.out _ (by repeat (first | exact More.refl _ | refine More.alloc ?_ _ | refine More.more ?_ _ | refine More.drew ?_ | refine More.drewN ?_ _))).1 (HB.out _ (by repeat (first | exact More.refl _ | refine More.alloc ?_ _ | refine More.more ?_ _ | refine More.drew ?_ | refine More.drewN ?_ _))).2.2) ?_); rintro e w' ⟨rfl, r5, rfl⟩))
      go_cut [8] from 98 (fun u wr => u = .bool false ∧ More (u2.alloc (.cells #[.string (bsOf nm), .int .i64 bc, .int .i64 bs, .slice la fcs.length lc] 30)) wr)
      case first =>
        by_cases hq4 : Q.length ≤ 4000
        · have x4 : ((Q.length : Nat) : Int) ≤ 4000 := by omega
          go_wp2_with (first
            | (go_at_call 12; (refine Calls.mono (HREADW.out Q HQ.out hq4 _ _ (HB.out _ (by repeat (first | exact More.refl _ | refine More.alloc ?_ _ | refine More.more ?_ _ | refine More.drew ?_ | refine More.drewN ?_ _))).1) ?_); rintro e w' ⟨la2, lc2, rfl, hm4, hF4⟩; obtain ⟨r6, rfl⟩ : More (u2.alloc (.cells #[.string (bsOf nm), .int .i64 bc, .int .i64 bs, .slice la fcs.length lc] 30)) w' := More.trans (by repeat (first | exact More.refl _ | refine More.alloc ?_ _ | refine More.more ?_ _ | refine More.drew ?_ | refine More.drewN ?_ _)) hm4; clear hm4; have HF4 := Lib.hid hF4; clear hF4)
            | (go_at_call 14; (refine Calls.mono (same_yes ⟨nm, ⟨bc, bs⟩, fcs⟩ _ _ _ (HF4.out.up (by repeat (first | exact More.refl _ | refine More.alloc ?_ _ | refine More.more ?_ _ | refine More.drew ?_ | refine More.drewN ?_ _))) (HB.out _ (by repeat (first | exact More.refl _ | refine More.alloc ?_ _ | refine More.more ?_ _ | refine More.drew ?_ | refine More.drewN ?_ _))).2.1 (by show fcs.length ≤ _; omega)) ?_); rintro e w' ⟨rfl, r7, rfl⟩))
          go_meet
          exact ⟨rfl, (by repeat (first | exact More.refl _ | refine More.alloc ?_ _ | refine More.more ?_ _ | refine More.drew ?_ | refine More.drewN ?_ _))⟩
        · have x4 : ¬ ((Q.length : Nat) : Int) ≤ 4000 := by omega
          go_wp2_with fail
          go_meet
          exact ⟨rfl, (by repeat (first | exact More.refl _ | refine More.alloc ?_ _ | refine More.more ?_ _ | refine More.drew ?_ | refine More.drewN ?_ _))⟩
      case rest =>
        obtain ⟨rfl, s9, rfl⟩ := hcut
        clear HREAD HREADW HRIGHT HPRINT HLENS HQ hq6
        go_wp2_with fail
        go_loopw [20, 119] (fun u i wr => ∃ k : Nat, k ≤ fcs.length ∧ u = .bool ((fcs.take k).any fun f => f.glass == flintT) ∧ i = .int .i64 k ∧ More (u2.alloc (.cells #[.string (bsOf nm), .int .i64 bc, .int .i64 bs, .slice la fcs.length lc] 30)) wr) (fun _ i _ => fcs.length - (intOf i).toNat)
        case atStart => exact ⟨0, by omega, rfl, rfl, (by repeat (first | exact More.refl _ | refine More.alloc ?_ _ | refine More.more ?_ _ | refine More.drew ?_ | refine More.drewN ?_ _))⟩
        case round =>
          obtain ⟨k, hk, hu, rfl, s, rfl⟩ := hrel
          obtain ⟨V, hV⟩ : ∃ V, ((fcs.take k).any fun f => f.glass == flintT) = V := ⟨_, rfl⟩
          rw [hV] at hu
          subst hu
          by_cases hkl : k < fcs.length
          · obtain ⟨f, hf⟩ : ∃ f, fcs[k]? = some f := ⟨fcs[k], List.getElem?_eq_getElem hkl⟩
            obtain ⟨b, o, rfl, hb, hL, -⟩ := fcs_at (HB.out (u2.alloc (.cells #[.string (bsOf nm), .int .i64 bc, .int .i64 bs, .slice la fcs.length lc] 30)) (by repeat (first | exact More.refl _ | refine More.alloc ?_ _ | refine More.more ?_ _ | refine More.drew ?_ | refine More.drewN ?_ _))).2.1 hf
            have hn := any_next hf
            rw [hV] at hn
            have HN1 := Lib.hid hn
            clear hn hV hf
            obtain ⟨fs, ⟨fr1, fr2⟩, ⟨fa1, fa2⟩, ⟨ft1, ft2⟩, ⟨fk1, fk2⟩, ⟨fp1, fp2⟩, ⟨fq1, fq2⟩, fg⟩ := f
            cases V with
            | true =>
              go_wp2_with fail
              go_roundw
              case rel => exact ⟨k + 1, by omega, (by rw [HN1.out]; rfl), rfl, (by repeat (first | exact More.refl _ | refine More.alloc ?_ _ | refine More.more ?_ _ | refine More.drew ?_ | refine More.drewN ?_ _))⟩
              case measure => simp [intOf] <;> omega
            | false =>
              go_wp2_with fail
              go_roundw
              case rel => exact ⟨k + 1, by omega, (by rw [HN1.out]; rfl), rfl, (by repeat (first | exact More.refl _ | refine More.alloc ?_ _ | refine More.more ?_ _ | refine More.drew ?_ | refine More.drewN ?_ _))⟩
              case measure => simp [intOf] <;> omega
          · obtain rfl : k = fcs.length := by omega
            rw [List.take_length] at hV
            have HV := Lib.hid hV
            clear hV
            have hC : ∀ W', More u2 W' → Gls W' (.slice (some ⟨gb, go, none⟩) 1 ca) [crownG] := fun W' h => GRow.take (k := 1) (HB.out _ h).1 (by rw [HN.out]; omega) (.inl (by simp))
            have HC := Lib.hid hC
            clear hC
            go_wp2_with fail
            go_at_call 17
            refine Calls.mono (printg_w _ (l := [crownG]) _ (HC.out _ (by repeat (first | exact More.refl _ | refine More.alloc ?_ _ | refine More.more ?_ _ | refine More.drew ?_ | refine More.drewN ?_ _))) crown_okL (HB.out _ (by repeat (first | exact More.refl _ | refine More.alloc ?_ _ | refine More.more ?_ _ | refine More.drew ?_ | refine More.drewN ?_ _))).2.2) ?_
            rintro e w' ⟨rfl, r7, rfl⟩
            go_wp2_with fail
            go_at_call 16
            refine Calls.mono (readCrown_c _) ?_
            rintro e u4 ⟨hv, X4, rfl, hM4, hO4⟩
            have hX4 : More u2 X4 := More.trans (by repeat (first | exact More.refl _ | refine More.alloc ?_ _ | refine More.more ?_ _ | refine More.drew ?_ | refine More.drewN ?_ _)) hM4
            obtain ⟨i0, hi, hz0, hz1, hz2⟩ := info_parts info_gs
            have hg4 := (HB.out u4 (hX4.trans hO4.mono)).1
            have hrl : (rawsG l2 (min l2.length 3)).length = N - 2 := by
              have := HN.out
              unfold glassesG at this
              rw [List.length_cons, List.length_cons] at this
              omega
            have hnl : (flatC cellsG (rawsG l2 (min l2.length 3))).length = (N - 2) * 13 := by rw [flatC_length cellsG 13 cellsG_len, hrl]
            have hone : ∀ u ∈ flatC cellsG (rawsG l2 (min l2.length 3)), u.oneCell' = true := by
              intro u hu
              obtain ⟨g, -, hg⟩ := List.mem_flatMap.1 hu
              exact cellsG_one g u hg
            have hless : ∀ v2 w2, OwnW X4 w2 X4.heap.size 50 13 v2 (1 + (N - 2)) (cellsG crownG ++ flatC cellsG (rawsG l2 (min l2.length 3))) → Gls w2 v2 (lessG l2) := by
              intro v2 w2 h
              refine OwnW.gls (X := X4) (e := 50) ?_
              have e1 : (lessG l2).length = 1 + (N - 2) := by unfold lessG; rw [List.length_cons, hrl]; omega
              rw [e1]
              exact h
            have b1 : 1 + (N - 2) ≤ maxLen := by simp only [maxLen]; omega
            have b2 : (1 + (N - 2)) * 112 ≤ 140737488355328 := by omega
            have hnc : ∀ j u, (flatC cellsG (rawsG l2 (min l2.length 3)))[j]? = some u → u4.cell? (Addr.add ⟨gb, go + 26, none⟩ j) = some u := by
              intro j u hu
              obtain ⟨q, g, i, h1, h2, rfl⟩ := flat_at cellsG_len _ _ _ hu
              have h3 := gcell hg4 (k := q + 2) (a := g) h1 i u h2
              rw [Addr.add_lit]
              have e2 : go + 26 + (q * 13 + i) = go + ((q + 2) * 13 + i) := by omega
              rw [e2]
              exact h3
            have HNL := Lib.hid hnl
            have HONE := Lib.hid hone
            have HLS := Lib.hid hless
            have HNC := Lib.hid hnc
            have HO4 := Lib.hid hO4
            have HX4 := Lib.hid hX4
            clear hnl hone hless hnc hO4 hX4 hg4 hM4 hrl
            by_cases hc2 : ca = 2
            · subst hc2
              obtain rfl : N = 2 := by omega
              have HN0 : flatC cellsG (rawsG l2 (min l2.length 3)) = [] := List.length_eq_zero_iff.1 HNL.out
              have HNC2 := Lib.hid (show ∀ j u, (flatC cellsG (rawsG l2 (min l2.length 3)))[j]? = some u → u4.cell? (Addr.add ⟨gb, go, none⟩ j) = some u from fun j u hu => by rw [HN0] at hu; cases hu)
              clear HN0
              cases V with
              | true =>
                go_wp2_with (first | (at_builtin; refine wpList_append_many (W2 := X4) rfl (.tmp 140) (.tmp 142) 24 rfl 50 i0 _ 13 112 und_gs hi hz0 hz1 hz2 rfl (by decide) hv 1 (cellsG crownG) rfl HO4.out ⟨gb, go, none⟩ 0 _ (flatC cellsG (rawsG l2 (min l2.length 3))) rfl HNL.out HNC2.out HONE.out b1 b2 ?_; intro v2 w2 hO5; have HO5 := Lib.hid hO5; clear hO5) | (go_at_call 12; (refine Calls.mono (HLESS1.out HV.out _ _ (HLS.out _ _ HO5.out)) ?_); rintro e w' ⟨la3, lc3, t1, t2, rfl, r8, rfl⟩))
                go_returns
                exact ⟨rfl, HM2.out.trans (HX4.out.trans (HO5.out.mono.trans (by repeat (first | exact More.refl _ | refine More.alloc ?_ _ | refine More.more ?_ _ | refine More.drew ?_ | refine More.drewN ?_ _))))⟩
              | false =>
                go_wp2_with (first | (at_builtin; refine wpList_append_many (W2 := X4) rfl (.tmp 140) (.tmp 142) 24 rfl 50 i0 _ 13 112 und_gs hi hz0 hz1 hz2 rfl (by decide) hv 1 (cellsG crownG) rfl HO4.out ⟨gb, go, none⟩ 0 _ (flatC cellsG (rawsG l2 (min l2.length 3))) rfl HNL.out HNC2.out HONE.out b1 b2 ?_; intro v2 w2 hO5; have HO5 := Lib.hid hO5; clear hO5) | (go_at_call 12; (refine Calls.mono (HLESS2.out HV.out _ _ (HLS.out _ _ HO5.out)) ?_); rintro e w' ⟨la3, lc3, rfl, ⟨r8, rfl⟩, -⟩))
                go_returns
                exact ⟨rfl, HM2.out.trans (HX4.out.trans (HO5.out.mono.trans (by repeat (first | exact More.refl _ | refine More.alloc ?_ _ | refine More.more ?_ _ | refine More.drew ?_ | refine More.drewN ?_ _))))⟩
            · cases V with
              | true =>
                go_wp2_with (first | (at_builtin; refine wpList_append_many (W2 := X4) rfl (.tmp 140) (.tmp 142) 24 rfl 50 i0 _ 13 112 und_gs hi hz0 hz1 hz2 rfl (by decide) hv 1 (cellsG crownG) rfl HO4.out ⟨gb, go + 26, none⟩ (N - 2) _ (flatC cellsG (rawsG l2 (min l2.length 3))) rfl HNL.out HNC.out HONE.out b1 b2 ?_; intro v2 w2 hO5; have HO5 := Lib.hid hO5; clear hO5) | (go_at_call 12; (refine Calls.mono (HLESS1.out HV.out _ _ (HLS.out _ _ HO5.out)) ?_); rintro e w' ⟨la3, lc3, t1, t2, rfl, r8, rfl⟩))
                go_returns
                exact ⟨rfl, HM2.out.trans (HX4.out.trans (HO5.out.mono.trans (by repeat (first | exact More.refl _ | refine More.alloc ?_ _ | refine More.more ?_ _ | refine More.drew ?_ | refine More.drewN ?_ _))))⟩
              | false =>
                go_wp2_with (first | (at_builtin; refine wpList_append_many (W2 := X4) rfl (.tmp 140) (.tmp 142) 24 rfl 50 i0 _ 13 112 und_gs hi hz0 hz1 hz2 rfl (by decide) hv 1 (cellsG crownG) rfl HO4.out ⟨gb, go + 26, none⟩ (N - 2) _ (flatC cellsG (rawsG l2 (min l2.length 3))) rfl HNL.out HNC.out HONE.out b1 b2 ?_; intro v2 w2 hO5; have HO5 := Lib.hid hO5; clear hO5) | (go_at_call 12; (refine Calls.mono (HLESS2.out HV.out _ _ (HLS.out _ _ HO5.out)) ?_); rintro e w' ⟨la3, lc3, rfl, ⟨r8, rfl⟩, -⟩))
                go_returns
                exact ⟨rfl, HM2.out.trans (HX4.out.trans (HO5.out.mono.trans (by repeat (first | exact More.refl _ | refine More.alloc ?_ _ | refine More.more ?_ _ | refine More.drew ?_ | refine More.drewN ?_ _))))⟩
end Go.Proofs.YtgikjbmaahblpaaGreatDoor

