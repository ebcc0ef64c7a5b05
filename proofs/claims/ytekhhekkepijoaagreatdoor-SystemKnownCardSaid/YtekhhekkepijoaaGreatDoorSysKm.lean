/-
  SystemKnown: its lenses, what is built of them.
-/
import Derived.Test.YtekhhekkepijoaaGreatDoorSysKn
import Derived.Test.YtekhhekkepijoaaGreatDoorGlassHd
import Derived.Test.YtekhhekkepijoaaGreatDoorGr5
namespace Go.Proofs.YtekhhekkepijoaaGreatDoor
set_option linter.unusedVariables false
open Go.ChangeShapes Go.WideShapes Go.ChangeAt Go.RowKit

def hF0 : Fc := ⟨false, ⟨30, 0⟩, ⟨5, 0⟩, ⟨1, 0⟩, ⟨0, 0⟩, ⟨0, 0⟩, ⟨0, 0⟩, [99, 114, 111, 119, 110]⟩
def hF1 : Fc := ⟨true, ⟨0, 0⟩, ⟨4, 0⟩, ⟨2, 0⟩, ⟨0, 0⟩, ⟨0, 0⟩, ⟨0, 0⟩, []⟩
def hF2 : Fc := ⟨false, ⟨-30, 0⟩, ⟨5, 0⟩, ⟨0, 0⟩, ⟨1, 0⟩, ⟨1, 0⟩, ⟨0, 0⟩, [97, 105, 114]⟩
def hLn : Ln := ⟨[97], ⟨40, 0⟩, [hF0, hF1, hF2]⟩
def zLn : Ln := ⟨[], ⟨0, 0⟩, []⟩
def hSf0 : Sf := ⟨false, false, ⟨2184, 2185, false⟩, ⟨65536, 65536, false⟩, ⟨0, 0, false⟩, ⟨0, 0, false⟩, ⟨2621440, 2621440, false⟩, ⟨1638400, 1638400, false⟩, ⟨43204, 43210, false⟩⟩
def hSf1 : Sf := ⟨true, false, ⟨0, 0, false⟩, ⟨65536, 65536, false⟩, ⟨0, 0, false⟩, ⟨0, 0, false⟩, ⟨2686976, 2686976, false⟩, ⟨1048576, 1048576, false⟩, ⟨65536, 65536, false⟩⟩
def hSf2 : Sf := ⟨false, true, ⟨-2185, -2184, false⟩, ⟨131072, 131072, false⟩, ⟨65536, 65536, false⟩, ⟨0, 0, false⟩, ⟨2818048, 2818048, false⟩, ⟨1638400, 1638400, false⟩, ⟨99399, 99411, false⟩⟩
theorem hRead : readLn ((glassesG []).map Gl.name) [108, 101, 110, 115, 32, 97, 32, 52, 48, 10, 102, 97, 99, 101, 32, 51, 48, 32, 53, 32, 49, 32, 99, 114, 111, 119, 110, 10, 115, 116, 111, 112, 32, 52, 32, 50, 10, 102, 97, 99, 101, 32, 45, 51, 48, 32, 53, 32, 48, 32, 97, 105, 114, 32, 99, 111, 110, 105, 99, 32, 49, 32, 97, 52, 32, 49] = .ok hLn := by kernel_rfl
theorem hText : textP hLn = [108, 101, 110, 115, 32, 97, 32, 52, 48, 10, 102, 97, 99, 101, 32, 51, 48, 32, 53, 32, 49, 32, 99, 114, 111, 119, 110, 10, 115, 116, 111, 112, 32, 52, 32, 50, 10, 102, 97, 99, 101, 32, 45, 51, 48, 32, 53, 32, 48, 32, 97, 105, 114, 32, 99, 111, 110, 105, 99, 32, 49, 32, 97, 52, 32, 49, 10] := by kernel_rfl
theorem hRead_yes : readLn ((glassesG []).map Gl.name) (textP hLn) = .ok hLn := by
  rw [hText]
  kernel_rfl
theorem hRead_no : readLn (([] : List Gl).map Gl.name) (textP hLn) = .error ⟨2, 13, 4⟩ := by
  rw [hText]
  kernel_rfl
theorem zText : textP zLn = [108, 101, 110, 115, 32, 32, 48, 10] := by kernel_rfl
theorem zRead_no : readLn (([] : List Gl).map Gl.name) (textP zLn) = .error ⟨1, 7, 2⟩ := by
  rw [zText]
  kernel_rfl
theorem hShort : Short hLn := by
  refine ⟨?_, ?_, by decide⟩
  · have : headP3 hLn.name hLn.back = [108, 101, 110, 115, 32, 97, 32, 52, 48, 10] := by kernel_rfl
    rw [this]
    decide
  · intro f hf
    simp only [hLn, List.mem_cons, List.not_mem_nil, or_false] at hf
    rcases hf with rfl | rfl | rfl
    · have : faceP hF0 = [102, 97, 99, 101, 32, 51, 48, 32, 53, 32, 49, 32, 99, 114, 111, 119, 110, 10] := by kernel_rfl
      rw [this]
      decide
    · have : faceP hF1 = [115, 116, 111, 112, 32, 52, 32, 50, 10] := by kernel_rfl
      rw [this]
      decide
    · have : faceP hF2 = [102, 97, 99, 101, 32, 45, 51, 48, 32, 53, 32, 48, 32, 97, 105, 114, 32, 99, 111, 110, 105, 99, 32, 49, 32, 97, 52, 32, 49, 10] := by kernel_rfl
      rw [this]
      decide
theorem zShort : Short zLn := by
  refine ⟨?_, ?_, by decide⟩
  · have : headP3 zLn.name zLn.back = [108, 101, 110, 115, 32, 32, 48, 10] := by kernel_rfl
    rw [this]
    decide
  · intro f hf
    cases hf
theorem hLine : lineP 0 = ⟨38508, 38509, false⟩ := by kernel_rfl
theorem hIx : ixG crownG ⟨38508, 38509, false⟩ = ⟨99399, 99411, false⟩ := by kernel_rfl
theorem hBuild1 : bq true hLn (glassesG []) ⟨38508, 38509, false⟩ = (⟨[hSf0, hSf1, hSf2], ⟨327680, 327680, false⟩⟩, 0) := by kernel_rfl
theorem hBuild2 : bq true hLn (glassesG []) ivNone = (noSy, 6) := by kernel_rfl

set_option maxHeartbeats 4000000 in
theorem buildNo_c (x : Ln) (lv g : Value) (G : List Gl) (q : Iv) (W : World) (f : Flt) (hx : Fcs W lv x.faces) (hg : Gls W g G) (hG : G.length ≤ 1000000) (hsh : Short x) (h12 : x.faces.length ≤ 12) (ht : Tab W) (hr : readLn (G.map Gl.name) (textP x) = .error f) (he : f.err ≠ 0) :
    Calls Tryz.prog 8 #[lnV x lv, g, ivV q] W fun e w' => e = .returned (.tuple #[.agg #[.slice none 0 0, .int .i64 0, .int .i64 0, .bool false], .int .i64 1]) ∧ More W w' := by
  have hR : ∀ W1, More W W1 → Calls Tryz.prog 25 #[lnV x lv, g] W1 fun e w' => e = .returned (.bool false) ∧ More W1 w' := fun W1 hM => rightl_no x lv g G W1 f (hx.up hM) (hg.up hM) hG hsh h12 (Tab.up hM ht) hr he
  obtain ⟨la, lc, rfl, -⟩ := grow_form fcs_pos hx
  have HR := Lib.hid hR
  clear hR hx hg ht hr he hsh h12
  obtain ⟨nm, ⟨bc, bs⟩, fcs⟩ := x
  obtain ⟨q1, q2, q3⟩ := q
  dsimp only at HR
  go_enter Tryz.func8, Tryz.ntmps8
  go_wp2_with (first | (go_at_call 25; (refine Calls.mono (HR.out _ (by repeat (first | exact More.refl _ | refine More.alloc ?_ _ | refine More.more ?_ _ | refine More.drew ?_ | refine More.drewN ?_ _))) ?_); rintro e w' ⟨rfl, r1, rfl⟩))
  go_returns
  exact ⟨rfl, (by repeat (first | exact More.refl _ | refine More.alloc ?_ _ | refine More.more ?_ _ | refine More.drew ?_ | refine More.drewN ?_ _))⟩

set_option maxHeartbeats 4000000 in
theorem sameNo_c (u v : Value) (a b : Iv) (W : World) (h : ivEq a b = false) (hu : ∃ ao n c, u = .slice ao n c) (hv : ∃ ao n c, v = .slice ao n c) :
    Calls Tryz.prog 15 #[.agg #[u, .int .i64 a.lo, .int .i64 a.hi, .bool a.no], .agg #[v, .int .i64 b.lo, .int .i64 b.hi, .bool b.no]] W fun e w' => e = .returned (.bool false) ∧ More W w' := by
  obtain ⟨a1, a2, a3⟩ := a
  obtain ⟨b1, b2, b3⟩ := b
  obtain ⟨ao, n, c, rfl⟩ := hu
  obtain ⟨bo, n', d, rfl⟩ := hv
  have E0 : ∀ w, (binOp .eql 36 (.agg #[.int .i64 a1, .int .i64 a2, .bool a3]) (.agg #[.int .i64 b1, .int .i64 b2, .bool b3])).run Tryz.prog w = .ok (.bool false) w := fun w => by
    have h2 := eql_iv ⟨a1, a2, a3⟩ ⟨b1, b2, b3⟩ w
    rw [h] at h2
    exact h2
  clear h
  dsimp only
  go_enter Tryz.func15, Tryz.ntmps15
  go_wp2_with fail
  go_returns
  exact ⟨rfl, (by repeat (first | exact More.refl _ | refine More.alloc ?_ _ | refine More.more ?_ _ | refine More.drew ?_ | refine More.drewN ?_ _))⟩
/-- What lies in a world that SystemKnown has come to. -/
structure KnAt (W : World) (g lv : Value) : Prop where
  gls : Gls W g (glassesG [])
  fcs : Fcs W lv hLn.faces
  tab : Tab W
theorem KnAt.up {W W' : World} {g lv : Value} (h : KnAt W g lv) (hM : More W W') : KnAt W' g lv := ⟨h.gls.up hM, h.fcs.up hM, Tab.up hM h.tab⟩
theorem kB1 {W : World} {g lv : Value} (h : KnAt W g lv) : Calls Tryz.prog 8 #[.agg #[.string ⟨#[97]⟩, .int .i64 40, .int .i64 0, lv], g, ivV ⟨38508, 38509, false⟩] W fun e w' => ∃ b o c, e = .returned (.tuple #[.agg #[.slice (some ⟨b, o, none⟩) 3 c, .int .i64 327680, .int .i64 327680, .bool false], .int .i64 0]) ∧ More W w' ∧ Sfs w' (.slice (some ⟨b, o, none⟩) 3 c) [hSf0, hSf1, hSf2] ∧ NewV W (.slice (some ⟨b, o, none⟩) 3 c) := by
  have h := build_c hLn lv g (glassesG []) ⟨38508, 38509, false⟩ true W h.fcs h.gls (by decide) (by decide) (by decide) (by decide) (fun W1 hM => rightl_yes hLn lv g _ W1 (h.fcs.up hM) (h.gls.up hM) (by decide) hShort (by decide) (Tab.up hM h.tab) hRead_yes)
  rw [hBuild1] at h
  refine h.mono ?_
  rintro e w' ⟨v', rfl, hM, hS, hN⟩
  have hS : Sfs w' v' [hSf0, hSf1, hSf2] := hS
  obtain ⟨ao, c, rfl, hc⟩ := grow_form sfs_pos hS
  obtain ⟨b, o, rfl, -, -⟩ := hc (by decide)
  exact ⟨b, o, c, rfl, hM, hS, hN⟩
theorem kB2 {W : World} {g lv : Value} (h : KnAt W g lv) (q : Iv) : Calls Tryz.prog 8 #[.agg #[.string ⟨#[97]⟩, .int .i64 40, .int .i64 0, lv], .slice none 0 0, ivV q] W fun e w' => e = .returned (.tuple #[.agg #[.slice none 0 0, .int .i64 0, .int .i64 0, .bool false], .int .i64 1]) ∧ More W w' :=
  buildNo_c hLn lv (.slice none 0 0) [] q W ⟨2, 13, 4⟩ h.fcs (gls_none W) (by decide) hShort (by decide) h.tab hRead_no (by decide)
theorem kB3 {W : World} {g lv : Value} (h : KnAt W g lv) : Calls Tryz.prog 8 #[.agg #[.string ⟨#[97]⟩, .int .i64 40, .int .i64 0, lv], g, ivV ivNone] W fun e w' => ∃ v, e = .returned (.tuple #[.agg #[v, .int .i64 0, .int .i64 0, .bool false], .int .i64 6]) ∧ More W w' ∧ ∃ a n c, v = .slice a n c := by
  have h := build_c hLn lv g (glassesG []) ivNone true W h.fcs h.gls (by decide) (by decide) (by decide) (by decide) (fun W1 hM => rightl_yes hLn lv g _ W1 (h.fcs.up hM) (h.gls.up hM) (by decide) hShort (by decide) (Tab.up hM h.tab) hRead_yes)
  rw [hBuild2] at h
  refine h.mono ?_
  rintro e w' ⟨v', rfl, hM, hS, -⟩
  obtain ⟨ao, c, rfl, -⟩ := grow_form sfs_pos hS
  exact ⟨_, rfl, hM, _, _, _, rfl⟩
theorem kB4 {W : World} {g lv : Value} (h : KnAt W g lv) (q : Iv) : Calls Tryz.prog 8 #[.agg #[.string ⟨#[]⟩, .int .i64 0, .int .i64 0, .slice none 0 0], .slice none 0 0, ivV q] W fun e w' => e = .returned (.tuple #[.agg #[.slice none 0 0, .int .i64 0, .int .i64 0, .bool false], .int .i64 1]) ∧ More W w' :=
  buildNo_c zLn (.slice none 0 0) (.slice none 0 0) [] q W ⟨1, 7, 2⟩ (.inl ⟨rfl, rfl⟩) (gls_none W) (by decide) zShort (by decide) h.tab zRead_no (by decide)


end Go.Proofs.YtekhhekkepijoaaGreatDoor

