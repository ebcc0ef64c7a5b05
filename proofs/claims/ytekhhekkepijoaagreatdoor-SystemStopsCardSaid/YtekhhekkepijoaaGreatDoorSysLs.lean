/-
  SystemLess: the walk.
-/
import Derived.Test.YtekhhekkepijoaaGreatDoorSysKn
import Derived.Test.YtekhhekkepijoaaGreatDoorSysLsMath
import Derived.Test.YtekhhekkepijoaaGreatDoorLensHd
import Derived.Test.YtekhhekkepijoaaGreatDoorGk
import Derived.Test.YtekhhekkepijoaaGreatDoorGj
import Derived.Test.YtekhhekkepijoaaGreatDoorGc
import Derived.Test.YtekhhekkepijoaaGreatDoorGa
import Derived.Test.YtekhhekkepijoaaGreatDoorGb
import Derived.Deep.RegionLaw
import Derived.Deep.Cut
namespace Go.Proofs.YtekhhekkepijoaaGreatDoor
set_option linter.unusedVariables false
open Go.ChangeShapes Go.WideShapes Go.ChangeAt Go.RowKit

theorem neql_self (x1 x2 : Int) (n : Bool) (w : World) : (binOp .neq 36 (.agg #[.int .i64 x1, .int .i64 x2, .bool n]) (.agg #[.int .i64 x1, .int .i64 x2, .bool n])).run Tryz.prog w = .ok (.bool false) w := by
  have h := neql_iv ⟨x1, x2, n⟩ ⟨x1, x2, n⟩ w
  rw [ivEq_iff.2 rfl] at h
  exact h
theorem hand_all (back : Int) (l : List RawF) (raw : List Int) (most : Nat) : (handLn back l (glassesG raw) most).faces.all (knownF ((glassesG raw).map Gl.name)) = true := hand_known back l raw most
/-- lens.Right of a lens that may be, its glasses known. -/
theorem right_all (x : Ln) (lv g : Value) (G : List Gl) (W : World) (hok : OkLn x) (hk : x.faces.all (knownF (G.map Gl.name)) = true) (hx : Fcs W lv x.faces) (hg : Gls W g G) (hG : G.length ≤ 1000000) (ht : Tab W) :
    Calls Tryz.prog 25 #[lnV x lv, g] W fun e w' => e = .returned (.bool true) ∧ More W w' :=
  rightl_yes x lv g G W hx hg hG (text_short hok) hok.most ht (by rw [text_same hok]; exact lens_back _ hok hk)
theorem name_short {x : Ln} (hok : OkLn x) : ∀ f ∈ x.faces, f.glass.length ≤ 1000000 := by
  intro f hf
  have h := hok.faces f hf
  cases hs : f.stop with
  | true => rw [(h.bare hs).2.2.2.2]; simp
  | false =>
    obtain ⟨c, w, e, -, -, hl⟩ := h.glass hs
    rw [e, List.length_cons]
    omega
/-- What is built of a lens that may be, in a world where it lies. -/
theorem buildOk_c (x : Ln) (lv g : Value) (G : List Gl) (w : Iv) (W : World) (hok : OkLn x) (h1 : 1 ≤ x.faces.length) (hk : x.faces.all (knownF (G.map Gl.name)) = true) (hx : Fcs W lv x.faces) (hg : Gls W g G) (hG : G.length ≤ 1000) (ht : Tab W) :
    Calls Tryz.prog 8 #[lnV x lv, g, ivV w] W fun e w' => ∃ v', e = .returned (.tuple #[syV (bq true x G w).1.wide v', .int .i64 (bq true x G w).2]) ∧ More W w' ∧ Sfs w' v' (bq true x G w).1.rows ∧ NewV W v' :=
  build_c x lv g G w true W hx hg hG hok.most h1 (name_short hok) fun W1 hM => right_all x lv g G W1 hok hk (hx.up hM) (hg.up hM) (by omega) (Tab.up hM ht)
