/-
  A system of raw faces: the lens of them, built.
-/
import Derived.Test.YtblbfommjfekeaaGreatDoorSysRf4
import Derived.Test.YtblbfommjfekeaaGreatDoorLensHd
import Derived.Test.YtblbfommjfekeaaGreatDoorGj
import Derived.Test.YtblbfommjfekeaaGreatDoorGc
import Derived.Test.YtblbfommjfekeaaGreatDoorSysMath
import Derived.Test.YtblbfommjfekeaaGreatDoorGb
import Derived.Deep.RegionLaw
import Derived.Deep.Cut
namespace Go.Proofs.YtblbfommjfekeaaGreatDoor
set_option linter.unusedVariables false
open Go.ChangeShapes Go.WideShapes Go.ChangeAt Go.RowKit

theorem short_name {x : Ln} (hok : OkLn x) : ∀ f ∈ x.faces, f.glass.length ≤ 1000000 := by
  intro f hf
  have h := hok.faces f hf
  cases hs : f.stop with
  | true => rw [(h.bare hs).2.2.2.2]; simp
  | false =>
    obtain ⟨c, w, e, -, -, hl⟩ := h.glass hs
    rw [e, List.length_cons]
    omega
/-- What the reference builds of a lens that may be, its glasses known or not. -/
theorem buildR_c (x : Ln) (lv g : Value) (G : List Gl) (w : Iv) (W : World) (hok : OkLn x) (h1 : 1 ≤ x.faces.length) (hx : Fcs W lv x.faces) (hg : Gls W g G) (hG : G.length ≤ 1000) :
    Calls Tryz.prog 21 #[lnV x lv, g, ivV w] W fun e w' => ∃ v', e = .returned (.tuple #[syV (bq (x.faces.all (knownF (G.map Gl.name))) x G w).1.wide v', .int .i64 (bq (x.faces.all (knownF (G.map Gl.name))) x G w).2]) ∧ More W w' ∧ Sfs w' v' (bq (x.faces.all (knownF (G.map Gl.name))) x G w).1.rows ∧ NewV W v' :=
  build8_c x lv g G w _ W hx hg hG hok.most h1 (short_name hok) fun W1 hM => rlens8_c x lv g G W1 hok (hx.up hM) (hg.up hM) (by omega)
