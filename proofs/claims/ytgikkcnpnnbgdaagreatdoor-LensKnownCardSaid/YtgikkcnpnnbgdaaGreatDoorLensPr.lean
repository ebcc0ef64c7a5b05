/-
  Which lenses may be; a lens that is printed; two lenses against each other.
-/
import Derived.Test.YtgikkcnpnnbgdaaGreatDoorLensTx2
import Derived.Test.YtgikkcnpnnbgdaaGreatDoorLensRdr
namespace Go.Proofs.YtgikkcnpnnbgdaaGreatDoor
set_option linter.unusedVariables false
open Go.ChangeShapes Go.WideShapes Go.ChangeAt Go.RowKit

/-- A glass of each face's name. -/
def askG (f : Fc) : Gl := ⟨f.glass, ⟨0, 0⟩, ⟨0, 0⟩, ⟨0, 0⟩, ⟨0, 0⟩, ⟨0, 0⟩, ⟨0, 0⟩⟩

set_option maxHeartbeats 3000000 in
set_option maxRecDepth 100000 in
theorem asked_c (x : Ln) (lv : Value) (W : World) (hx : Fcs W lv x.faces) (hl : x.faces.length ≤ 1000) :
    Calls Tryz.prog 23 #[lnV x lv] W fun e w' => ∃ v', e = .returned v' ∧ More W w' ∧ Gls w' v' (x.faces.map askG) := by
  obtain ⟨i0, hi, hz0, hz1, hz2⟩ := info_parts info_gs
  obtain ⟨ao, c, rfl, -⟩ := grow_form fcs_pos hx
  obtain ⟨nm, ⟨bc, bs⟩, fcs⟩ := x
  have HX := Lib.hid hx
  clear hx
  dsimp only at hl HX ⊢
  go_enter Tryz.func23, Tryz.ntmps23
  go_wp2_with fail
  go_loopw [3, 9] (fun u i wr => ∃ k : Nat, k ≤ fcs.length ∧ i = .int .i64 k ∧ OwnW (W.alloc (.cells #[.string (bsOf nm), .int .i64 bc, .int .i64 bs, .slice ao fcs.length c] 30)) wr (W.heap.size + 1) 52 13 u k (flatC cellsG ((fcs.take k).map askG))) (fun _ i _ => fcs.length - (intOf i).toNat)
  case atStart => exact ⟨0, by omega, rfl, ⟨⟨#[], _⟩, (more_self _).symm, OwnS.nil _ _ _ _⟩⟩
  case round =>
    obtain ⟨k, hk, rfl, s, rfl, hS⟩ := hrel
    have HS := Lib.hid hS
    clear hS
    by_cases hkl : k < fcs.length
    · obtain ⟨f, hf⟩ : ∃ f, fcs[k]? = some f := ⟨fcs[k], List.getElem?_eq_getElem hkl⟩
      obtain ⟨b, o, rfl, hb, hL, hL0⟩ := fcs_at (w := (W.alloc (.cells #[.string (bsOf nm), .int .i64 bc, .int .i64 bs, .slice ao fcs.length c] 30))) (GRow.alloc HX.out) hf
      have hnext : flatC cellsG ((fcs.take (k + 1)).map askG) = flatC cellsG ((fcs.take k).map askG) ++ cellsG (askG f) := by
        rw [List.take_add_one, hf, List.map_append, flatC_app]
        simp [flatC]
      have HN := Lib.hid hnext
      clear hnext hf
      obtain ⟨fs, ⟨fr1, fr2⟩, ⟨fa1, fa2⟩, ⟨ft1, ft2⟩, ⟨fk1, fk2⟩, ⟨fp1, fp2⟩, ⟨fq1, fq2⟩, fg⟩ := f
      have b1 : k + 1 ≤ maxLen := by simp only [maxLen]; omega
      have b2 : (k + 1) * 112 ≤ 140737488355328 := by omega
      go_wp2_with (first | (at_builtin; refine wpList_append_w (W2 := (W.alloc (.cells #[.string (bsOf nm), .int .i64 bc, .int .i64 bs, .slice (some ⟨b, o, none⟩) fcs.length c] 30))) rfl (.tmp 13) (.tmp 17) 22 rfl 52 i0 _ 13 112 und_gs hi hz0 hz1 hz2 rfl (by decide) _ k (flatC cellsG ((fcs.take k).map askG)) (W.heap.size + 1) (by simp) rfl (OwnW.alloc ⟨s, rfl, HS.out⟩ _) (cellsG (askG ⟨fs, ⟨fr1, fr2⟩, ⟨fa1, fa2⟩, ⟨ft1, ft2⟩, ⟨fk1, fk2⟩, ⟨fp1, fp2⟩, ⟨fq1, fq2⟩, fg⟩)) 1 _ rfl (by first | (simp; done) | (simp; omega)) rfl (cellsG_one _) b1 b2 ?_; rintro v2 w2 ⟨s2, rfl, hS2⟩; have HS2 := Lib.hid hS2; clear hS2))
      go_roundw
      case rel => exact ⟨k + 1, by omega, rfl, s2, rfl, by rw [HN.out]; exact HS2.out⟩
      case measure => simp [intOf] <;> omega
    · obtain rfl : k = fcs.length := by omega
      have hh := HS.out
      rw [List.take_length] at hh
      have HH := Lib.hid hh
      clear hh
      go_wp2_with fail
      go_returns
      refine ⟨_, rfl, (by repeat (first | exact More.refl _ | refine More.alloc ?_ _ | refine More.more ?_ _ | refine More.drew ?_ | refine More.drewN ?_ _)), ?_⟩
      refine OwnW.row (f := cellsG) (X := (W.alloc (.cells #[.string (bsOf nm), .int .i64 bc, .int .i64 bs, .slice ao fcs.length c] 30))) (base := W.heap.size + 1) (e := 52) cellsG_len (by decide) (by simp) ⟨s, rfl, ?_⟩
      rw [List.length_map]
      exact HH.out

end Go.Proofs.YtgikkcnpnnbgdaaGreatDoor

