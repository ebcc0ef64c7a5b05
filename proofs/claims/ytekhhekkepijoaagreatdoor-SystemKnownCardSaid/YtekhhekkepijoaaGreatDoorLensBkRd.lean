/-
  A list of glasses that is read, as a row of its own; several elements behind it.
-/
import Derived.Test.YtekhhekkepijoaaGreatDoorGlassRdW
import Derived.Test.YtekhhekkepijoaaGreatDoorGh
import Derived.Test.YtekhhekkepijoaaGreatDoorLensRdr
import Derived.Maps.AppendAt
namespace Go.Proofs.YtekhhekkepijoaaGreatDoor
set_option linter.unusedVariables false
open Go.ChangeShapes Go.WideShapes Go.ChangeAt Go.RowKit

theorem readOk_c (s : List UInt8) (g : Value) (G : List Gl) (x : Ln) (W : World) (hz : s.length ≤ 9223372036854775807) (hg : Gls W g G) (hG : G.length ≤ 1000000) (hr : readLn (G.map Gl.name) s = .ok x) :
    Calls Tryz.prog 6 #[.string (bsOf s), g] W fun en w' => ∃ la lc, en = .returned (.tuple #[lnV x (.slice la x.faces.length lc), .complex .f64 0 0, .int .i64 0]) ∧ More W w' ∧ Fcs w' (.slice la x.faces.length lc) x.faces := by
  have h := readl_c s g G W hz hg hG
  rw [hr] at h
  refine h.mono ?_
  rintro en w' ⟨lv2, rfl, h2, h3⟩
  dsimp only [okL] at h3
  obtain ⟨la, lc, rfl, -⟩ := grow_form fcs_pos h3
  refine ⟨la, lc, ?_, h2, h3⟩
  show Ending.returned (.tuple #[_, plV2 0 0, _]) = _
  rw [plV2_zero]
  rfl
end Go.Proofs.YtekhhekkepijoaaGreatDoor

