/-
  A lens's text, whether it may be read or not.
-/
import Derived.Test.YtekhhekkepijoaaGreatDoorLensTxt
import Derived.Deep.RegionLaw
import Derived.Deep.Cut
import Derived.Deep.CutRange
namespace Go.Proofs.YtekhhekkepijoaaGreatDoor
set_option linter.unusedVariables false
open Go.ChangeShapes Go.WideShapes Go.ChangeAt Go.RowKit

def wordsP (f : Fc) : List (List UInt8) := if f.stop = true then [stopT, printP f.aperture, printP f.thick] else toksP f
def faceP (f : Fc) : List UInt8 := joinT (wordsP f) ++ [10]
def headP3 (nm : List UInt8) (bk : Dec) : List UInt8 := joinT [lensT, nm, printP bk] ++ [10]
def textPk (x : Ln) (k : Nat) : List UInt8 := headP3 x.name x.back ++ (x.faces.take k).flatMap faceP
def textP (x : Ln) : List UInt8 := headP3 x.name x.back ++ x.faces.flatMap faceP
/-- Its lines are not too long. -/
structure Short (x : Ln) : Prop where
  head : (headP3 x.name x.back).length ≤ 1000
  face : ∀ f ∈ x.faces, (faceP f).length ≤ 1000
  many : x.faces.length ≤ 1000
theorem textPk_len {x : Ln} (h : Short x) : ∀ k, (textPk x k).length ≤ 1000 + k * 1000 := by
  intro k
  have key : ∀ l : List Fc, (∀ f ∈ l, (faceP f).length ≤ 1000) → (l.flatMap faceP).length ≤ l.length * 1000 := by
    intro l
    induction l with
    | nil => intro _; simp
    | cons f r ih =>
      intro hl
      have h1 := hl f (by simp)
      have h2 := ih fun y hy => hl y (by simp [hy])
      rw [List.flatMap_cons, List.length_append, List.length_cons]
      omega
  have h1 := key (x.faces.take k) fun f hf => h.face f (List.mem_of_mem_take hf)
  have h2 : (x.faces.take k).length ≤ k := by rw [List.length_take]; omega
  have := h.head
  unfold textPk
  rw [List.length_append]
  omega
theorem textPk_next {x : Ln} {k : Nat} {f : Fc} (hf : x.faces[k]? = some f) : textPk x (k + 1) = textPk x k ++ faceP f := by
  unfold textPk
  rw [List.take_add_one, hf, List.flatMap_append, List.append_assoc]
  simp
theorem face_join {f : Fc} (h : (faceP f).length ≤ 1000) : (joinT (wordsP f)).length ≤ 1000000 := by
  unfold faceP at h
  rw [List.length_append] at h
  omega
theorem toks_len (f : Fc) : 0 < (toksP f).length ∧ (toksP f).length ≤ 1000 := by
  unfold toksP
  simp only [List.length_append, List.length_cons, List.length_nil]
  rcases trm_cases conicT f.conic with h1 | h1 <;> rcases trm_cases a4T f.a4 with h2 | h2 <;> rcases trm_cases a6T f.a6 with h3 | h3 <;> rw [h1, h2, h3] <;> simp

set_option maxHeartbeats 3000000 in
set_option maxRecDepth 100000 in
theorem ltext_c (x : Ln) (lv : Value) (W : World) (hx : Fcs W lv x.faces) (hsh : Short x) (ht : Tab W) :
    Calls Tryz.prog 59 #[.agg #[.string (bsOf x.name), .int .i64 x.back.c, .int .i64 x.back.s, lv]] W fun e w' => e = .returned (.string (bsOf (textP x))) ∧ More W w' := by
  obtain ⟨ao, c, rfl, -⟩ := grow_form fcs_pos hx
  obtain ⟨nm, ⟨bc, bs⟩, fcs⟩ := x
  have hj0 : (joinT [lensT, nm, printP ⟨bc, bs⟩]).length ≤ 1000000 := by
    have h1 := hsh.head
    unfold headP3 at h1
    rw [List.length_append] at h1
    dsimp only at h1
    omega
  have HX := Lib.hid hx
  have hT : ∀ W1, More W W1 → Tab W1 := fun W1 h => Tab.up h ht
  have HT := Lib.hid hT
  clear hx hT
  dsimp only at hsh HX ⊢
  go_enter Tryz.func59, Tryz.ntmps59
  go_wp2_with fail
  go_cut [3] from 6 (fun u wr => u = .string (bsOf (textPk ⟨nm, ⟨bc, bs⟩, fcs⟩ 0)) ∧ More (W.alloc (.cells #[.string (bsOf nm), .int .i64 bc, .int .i64 bs, .slice ao fcs.length c] 28)) wr)
  case first =>
    go_region_law (first | (go_simp; go_at_call 84; (refine Calls.mono (print_c _ ⟨bc, bs⟩ (HT.out _ (by repeat (first | exact More.refl _ | refine More.alloc ?_ _ | refine More.more ?_ _ | refine More.drew ?_ | refine More.drewN ?_ _)))) ?_); rintro e w' ⟨rfl, r1, rfl⟩) | (go_simp; go_at_call 83; (refine Calls.mono (lline_c [lensT, nm, printP ⟨bc, bs⟩] _ _ (strs_new _ (by first | (simp; done) | (simp; omega)) _ rfl _ rfl) (by show 0 < 3; decide) (by show 3 ≤ 1000; decide) hj0) ?_); rintro e w' ⟨rfl, r2, rfl⟩))
    all_goals go_wp2_with fail
    all_goals go_meet
    all_goals exact ⟨by unfold textPk headP3; simp, (by repeat (first | exact More.refl _ | refine More.alloc ?_ _ | refine More.more ?_ _ | refine More.drew ?_ | refine More.drewN ?_ _))⟩
  case rest =>
    obtain ⟨rfl, r, rfl⟩ := hcut
    go_wp2_with fail
    go_loopw [3, 16] (fun u i wr => ∃ k : Nat, k ≤ fcs.length ∧ i = .int .i64 k ∧ u = .string (bsOf (textPk ⟨nm, ⟨bc, bs⟩, fcs⟩ k)) ∧ More (W.alloc (.cells #[.string (bsOf nm), .int .i64 bc, .int .i64 bs, .slice ao fcs.length c] 28)) wr) (fun _ i _ => fcs.length - (intOf i).toNat)
    case atStart => exact ⟨0, by omega, rfl, rfl, (by repeat (first | exact More.refl _ | refine More.alloc ?_ _ | refine More.more ?_ _ | refine More.drew ?_ | refine More.drewN ?_ _))⟩
    case round =>
      obtain ⟨k, hk, rfl, rfl, s, rfl⟩ := hrel
      by_cases hkl : k < fcs.length
      · obtain ⟨f, hf⟩ : ∃ f, fcs[k]? = some f := ⟨fcs[k], List.getElem?_eq_getElem hkl⟩
        have hnext := textPk_next (x := ⟨nm, ⟨bc, bs⟩, fcs⟩) hf
        have hlen := textPk_len hsh k
        have hmany : fcs.length ≤ 1000 := hsh.many
        have hfl := hsh.face f (List.mem_of_getElem? hf)
        have hjj := face_join hfl
        obtain ⟨b, o, rfl, hb, hL, hL0⟩ := fcs_at (w := (W.alloc (.cells #[.string (bsOf nm), .int .i64 bc, .int .i64 bs, .slice ao fcs.length c] 28))) (GRow.alloc HX.out) hf
        obtain ⟨TK, hTK⟩ : ∃ TK, textPk ⟨nm, ⟨bc, bs⟩, fcs⟩ k = TK := ⟨_, rfl⟩
        rw [hTK] at hnext hlen ⊢
        have HN := Lib.hid hnext
        clear hnext hTK hf
        obtain ⟨fs, ⟨fr1, fr2⟩, ⟨fa1, fa2⟩, ⟨ft1, ft2⟩, ⟨fk1, fk2⟩, ⟨fp1, fp2⟩, ⟨fq1, fq2⟩, fg⟩ := f
        cases fs with
        | true =>
          have e1 : wordsP ⟨true, ⟨fr1, fr2⟩, ⟨fa1, fa2⟩, ⟨ft1, ft2⟩, ⟨fk1, fk2⟩, ⟨fp1, fp2⟩, ⟨fq1, fq2⟩, fg⟩ = [stopT, printP ⟨fa1, fa2⟩, printP ⟨ft1, ft2⟩] := rfl
          unfold faceP at hfl HN
          rw [e1] at hjj hfl HN
          obtain ⟨J, hJ⟩ : ∃ J, joinT [stopT, printP ⟨fa1, fa2⟩, printP ⟨ft1, ft2⟩] = J := ⟨_, rfl⟩
          have HJ := Lib.hid hJ
          rw [hJ] at hjj hfl HN
          rw [List.length_append, List.length_singleton] at hfl
          have hcat : ¬ 9223372036854775807 < TK.length + (J.length + 1) := by omega
          clear e1 hJ
          go_wp2_with fail
          go_region_law (first | (go_simp; go_at_call 84; (with_reducible refine Calls.mono (print_c _ ⟨fa1, fa2⟩ (HT.out _ (by repeat (first | exact More.refl _ | refine More.alloc ?_ _ | refine More.more ?_ _ | refine More.drew ?_ | refine More.drewN ?_ _)))) ?_); rintro e w' ⟨rfl, r1, rfl⟩) | (go_simp; go_at_call 84; (with_reducible refine Calls.mono (print_c _ ⟨ft1, ft2⟩ (HT.out _ (by repeat (first | exact More.refl _ | refine More.alloc ?_ _ | refine More.more ?_ _ | refine More.drew ?_ | refine More.drewN ?_ _)))) ?_); rintro e w' ⟨rfl, r1, rfl⟩) | (go_simp; go_at_call 83; (refine Calls.mono (lline_c [stopT, printP ⟨fa1, fa2⟩, printP ⟨ft1, ft2⟩] _ _ (strs_new _ (by first | (simp; done) | (simp; omega)) _ rfl _ rfl) (by show 0 < 3; decide) (by show 3 ≤ 1000; decide) (by rw [HJ.out]; exact hjj)) ?_); rintro e w' ⟨rfl, r2, rfl⟩; rw [HJ.out]))
          all_goals
            go_wp2_with fail
            go_roundw
            case rel => exact ⟨k + 1, by omega, rfl, by rw [HN.out], (by repeat (first | exact More.refl _ | refine More.alloc ?_ _ | refine More.more ?_ _ | refine More.drew ?_ | refine More.drewN ?_ _))⟩
            case measure => simp [intOf] <;> omega
        | false =>
          have e1 : wordsP ⟨false, ⟨fr1, fr2⟩, ⟨fa1, fa2⟩, ⟨ft1, ft2⟩, ⟨fk1, fk2⟩, ⟨fp1, fp2⟩, ⟨fq1, fq2⟩, fg⟩ = toksP ⟨false, ⟨fr1, fr2⟩, ⟨fa1, fa2⟩, ⟨ft1, ft2⟩, ⟨fk1, fk2⟩, ⟨fp1, fp2⟩, ⟨fq1, fq2⟩, fg⟩ := rfl
          have htl := toks_len ⟨false, ⟨fr1, fr2⟩, ⟨fa1, fa2⟩, ⟨ft1, ft2⟩, ⟨fk1, fk2⟩, ⟨fp1, fp2⟩, ⟨fq1, fq2⟩, fg⟩
          unfold faceP at hfl HN
          rw [e1] at hjj hfl HN
          obtain ⟨WS, hWS⟩ : ∃ WS, toksP ⟨false, ⟨fr1, fr2⟩, ⟨fa1, fa2⟩, ⟨ft1, ft2⟩, ⟨fk1, fk2⟩, ⟨fp1, fp2⟩, ⟨fq1, fq2⟩, fg⟩ = WS := ⟨_, rfl⟩
          have HWS := Lib.hid hWS
          rw [hWS] at hjj hfl HN htl
          obtain ⟨J, hJ⟩ : ∃ J, joinT WS = J := ⟨_, rfl⟩
          have HJ := Lib.hid hJ
          rw [hJ] at hfl HN
          rw [List.length_append, List.length_singleton] at hfl
          have hcat : ¬ 9223372036854775807 < TK.length + (J.length + 1) := by omega
          clear e1 hJ hWS
          go_wp2_with (first | (go_at_call 85; (refine Calls.mono (tokensOf_c ⟨false, ⟨fr1, fr2⟩, ⟨fa1, fa2⟩, ⟨ft1, ft2⟩, ⟨fk1, fk2⟩, ⟨fp1, fp2⟩, ⟨fq1, fq2⟩, fg⟩ _ (HT.out _ (by repeat (first | exact More.refl _ | refine More.alloc ?_ _ | refine More.more ?_ _ | refine More.drew ?_ | refine More.drewN ?_ _)))) ?_); rintro e w' ⟨tv, rfl, ⟨r3, rfl⟩, htv⟩; rw [HWS.out] at htv) | (go_at_call 83; (refine Calls.mono (lline_c WS _ _ (by first | exact htv | (simp only [more_more] at htv; exact htv)) htl.1 htl.2 hjj) ?_); rintro e w' ⟨rfl, r4, rfl⟩; rw [HJ.out]))
          go_roundw
          case rel => exact ⟨k + 1, by omega, rfl, by rw [HN.out], (by repeat (first | exact More.refl _ | refine More.alloc ?_ _ | refine More.more ?_ _ | refine More.drew ?_ | refine More.drewN ?_ _))⟩
          case measure => simp [intOf] <;> omega
      · obtain rfl : k = fcs.length := by omega
        go_wp2_with fail
        go_returns
        refine ⟨?_, (by repeat (first | exact More.refl _ | refine More.alloc ?_ _ | refine More.more ?_ _ | refine More.drew ?_ | refine More.drewN ?_ _))⟩
        unfold textPk textP
        rw [List.take_length]
        rfl

end Go.Proofs.YtekhhekkepijoaaGreatDoor

