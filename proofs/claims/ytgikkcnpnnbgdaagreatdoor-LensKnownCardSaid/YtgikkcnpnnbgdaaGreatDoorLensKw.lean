/-
  LensKnown: chapter 12's example, the other known texts: the walk.
-/
import Derived.Test.YtgikkcnpnnbgdaaGreatDoorLensKn
import Derived.Test.YtgikkcnpnnbgdaaGreatDoorGlassHd
namespace Go.Proofs.YtgikkcnpnnbgdaaGreatDoor
set_option linter.unusedVariables false
open Go.ChangeShapes Go.WideShapes Go.ChangeAt Go.RowKit

def gNames : List (List UInt8) := (glassesG []).map Gl.name

set_option maxHeartbeats 4000000 in
theorem lwhy_k {R : Ex Ln} (s : List UInt8) (hR : readLn gNames s = R) (hz : s.length ≤ 9223372036854775807) (p c : Nat) (ga : Option Addr) (W : World) (hp : p < W.heap.size) (hc : W.cell? ⟨p, 0, none⟩ = some (.slice ga 2 c)) (hg : Gls W (.slice ga 2 c) (glassesG [])) :
    Calls Tryz.prog 7 #[.string (bsOf s), .pointer (some ⟨p, 0, none⟩)] W fun e w' => e = .returned (.tuple #[plV2 (flO R).line (flO R).col, .int .i64 (flO R).err]) ∧ More W w' := by
  subst hR
  obtain ⟨R, hR⟩ : ∃ R, readLn gNames s = R := ⟨_, rfl⟩
  have h1 : ∀ W1, More W W1 → Calls Tryz.prog 8 #[.string (bsOf s), .slice ga 2 c] W1 fun en w' => ∃ la lc, en = .returned (.tuple #[.agg #[.string (bsOf (okL R).name), .int .i64 (okL R).back.c, .int .i64 (okL R).back.s, .slice la (okL R).faces.length lc], .complex .f64 (nw (flO R).line) (nw (flO R).col), .int .i64 (flO R).err]) ∧ More W1 w' := by
    intro W1 hM
    have h := readl_c s (.slice ga 2 c) (glassesG []) W1 hz (hg.up hM) (by decide)
    rw [show readLn ((glassesG []).map Gl.name) s = R from hR] at h
    refine h.mono ?_
    rintro en w' ⟨lv2, rfl, h2, h3⟩
    obtain ⟨la, lc, rfl, -⟩ := grow_form fcs_pos h3
    exact ⟨la, lc, rfl, h2⟩
  rw [hR]
  have H1 := Lib.hid h1
  clear h1 hR hg
  go_enter Tryz.func7, Tryz.ntmps7
  go_wp2_with (first | (go_at_call 8; (refine Calls.mono (H1.out _ (by repeat (first | exact More.refl _ | refine More.alloc ?_ _ | refine More.more ?_ _ | refine More.drew ?_ | refine More.drewN ?_ _))) ?_); rintro e w' ⟨la, lc, rfl, r1, rfl⟩))
  go_returns
  exact ⟨rfl, (by repeat (first | exact More.refl _ | refine More.alloc ?_ _ | refine More.more ?_ _ | refine More.drew ?_ | refine More.drewN ?_ _))⟩

theorem nwl_1 : nw 1 = 4607182418800017408 := by rw [nw_eq]; decide +kernel
theorem nwl_2 : nw 2 = 4611686018427387904 := by rw [nw_eq]; decide +kernel
theorem nwl_6 : nw 6 = 4618441417868443648 := by rw [nw_eq]; decide +kernel
theorem nwl_8 : nw 8 = 4620693217682128896 := by rw [nw_eq]; decide +kernel
theorem nwl_9 : nw 9 = 4621256167635550208 := by rw [nw_eq]; decide +kernel
theorem nwl_10 : nw 10 = 4621819117588971520 := by rw [nw_eq]; decide +kernel
theorem nwl_12 : nw 12 = 4622945017495814144 := by rw [nw_eq]; decide +kernel
theorem nwl_14 : nw 14 = 4624070917402656768 := by rw [nw_eq]; decide +kernel
theorem nwl_19 : nw 19 = 4626041242239631360 := by rw [nw_eq]; decide +kernel
theorem nwl_21 : nw 21 = 4626604192193052672 := by rw [nw_eq]; decide +kernel

/-- A world in which the closure's glasses lie. -/
structure WhyAt (W : World) (p c : Nat) (ga : Option Addr) : Prop where
  lt : p < W.heap.size
  cell : W.cell? ⟨p, 0, none⟩ = some (.slice ga 2 c)
  gls : Gls W (.slice ga 2 c) (glassesG [])
theorem WhyAt.up {W W' : World} {p c : Nat} {ga : Option Addr} (h : WhyAt W p c ga) (hM : More W W') : WhyAt W' p c ga := by
  obtain ⟨r, rfl⟩ := hM
  exact ⟨by rw [size_more]; have := h.lt; omega, by rw [cell_more _ _ _ _ h.lt]; exact h.cell, h.gls.more⟩

theorem lwhy_0 {W : World} {p c : Nat} {ga : Option Addr} (h : WhyAt W p c ga) : Calls Tryz.prog 7 #[.string ⟨#[]⟩, .pointer (some ⟨p, 0, none⟩)] W fun e w' => e = .returned (.tuple #[.complex .f64 0 0, .int .i64 2]) ∧ More W w' := by
  have h := lwhy_k (R := .error ⟨0, 0, 2⟩) [] (by kernel_rfl) (by decide) p c ga W h.lt h.cell h.gls
  simp only [plV2, flO, nw_zero] at h
  exact h

theorem lwhy_1 {W : World} {p c : Nat} {ga : Option Addr} (h : WhyAt W p c ga) : Calls Tryz.prog 7 #[.string ⟨#[108, 101, 110, 115, 32, 97, 32, 48, 10, 102, 97, 99, 101, 32, 48, 32, 53, 32, 49, 32, 97, 105, 114]⟩, .pointer (some ⟨p, 0, none⟩)] W fun e w' => e = .returned (.tuple #[.complex .f64 4607182418800017408 4620693217682128896, .int .i64 1]) ∧ More W w' := by
  have h := lwhy_k (R := .error ⟨1, 8, 1⟩) [108, 101, 110, 115, 32, 97, 32, 48, 10, 102, 97, 99, 101, 32, 48, 32, 53, 32, 49, 32, 97, 105, 114] (by kernel_rfl) (by decide) p c ga W h.lt h.cell h.gls
  simp only [plV2, flO, nwl_1, nwl_8] at h
  exact h

theorem lwhy_2 {W : World} {p c : Nat} {ga : Option Addr} (h : WhyAt W p c ga) : Calls Tryz.prog 7 #[.string ⟨#[108, 101, 110, 115, 32, 97, 32, 52, 48, 10, 102, 97, 99, 101, 32, 52, 32, 53, 32, 49, 32, 97, 105, 114]⟩, .pointer (some ⟨p, 0, none⟩)] W fun e w' => e = .returned (.tuple #[.complex .f64 4611686018427387904 4618441417868443648, .int .i64 1]) ∧ More W w' := by
  have h := lwhy_k (R := .error ⟨2, 6, 1⟩) [108, 101, 110, 115, 32, 97, 32, 52, 48, 10, 102, 97, 99, 101, 32, 52, 32, 53, 32, 49, 32, 97, 105, 114] (by kernel_rfl) (by decide) p c ga W h.lt h.cell h.gls
  simp only [plV2, flO, nwl_2, nwl_6] at h
  exact h

theorem lwhy_3 {W : World} {p c : Nat} {ga : Option Addr} (h : WhyAt W p c ga) : Calls Tryz.prog 7 #[.string ⟨#[108, 101, 110, 115, 32, 97, 32, 52, 48, 10, 102, 97, 99, 101, 32, 48, 32, 48, 32, 49, 32, 97, 105, 114]⟩, .pointer (some ⟨p, 0, none⟩)] W fun e w' => e = .returned (.tuple #[.complex .f64 4611686018427387904 4620693217682128896, .int .i64 1]) ∧ More W w' := by
  have h := lwhy_k (R := .error ⟨2, 8, 1⟩) [108, 101, 110, 115, 32, 97, 32, 52, 48, 10, 102, 97, 99, 101, 32, 48, 32, 48, 32, 49, 32, 97, 105, 114] (by kernel_rfl) (by decide) p c ga W h.lt h.cell h.gls
  simp only [plV2, flO, nwl_2, nwl_8] at h
  exact h

theorem lwhy_4 {W : World} {p c : Nat} {ga : Option Addr} (h : WhyAt W p c ga) : Calls Tryz.prog 7 #[.string ⟨#[108, 101, 110, 115, 32, 97, 32, 52, 48, 10, 102, 97, 99, 101, 32, 48, 32, 53, 32, 45, 49, 32, 97, 105, 114]⟩, .pointer (some ⟨p, 0, none⟩)] W fun e w' => e = .returned (.tuple #[.complex .f64 4611686018427387904 4621819117588971520, .int .i64 1]) ∧ More W w' := by
  have h := lwhy_k (R := .error ⟨2, 10, 1⟩) [108, 101, 110, 115, 32, 97, 32, 52, 48, 10, 102, 97, 99, 101, 32, 48, 32, 53, 32, 45, 49, 32, 97, 105, 114] (by kernel_rfl) (by decide) p c ga W h.lt h.cell h.gls
  simp only [plV2, flO, nwl_10, nwl_2] at h
  exact h

theorem lwhy_5 {W : World} {p c : Nat} {ga : Option Addr} (h : WhyAt W p c ga) : Calls Tryz.prog 7 #[.string ⟨#[108, 101, 110, 115, 32, 97, 32, 52, 48, 10, 102, 97, 99, 101, 32, 48, 32, 53, 32, 49, 32, 114, 117, 98, 121]⟩, .pointer (some ⟨p, 0, none⟩)] W fun e w' => e = .returned (.tuple #[.complex .f64 4611686018427387904 4622945017495814144, .int .i64 4]) ∧ More W w' := by
  have h := lwhy_k (R := .error ⟨2, 12, 4⟩) [108, 101, 110, 115, 32, 97, 32, 52, 48, 10, 102, 97, 99, 101, 32, 48, 32, 53, 32, 49, 32, 114, 117, 98, 121] (by kernel_rfl) (by decide) p c ga W h.lt h.cell h.gls
  simp only [plV2, flO, nwl_12, nwl_2] at h
  exact h

theorem lwhy_6 {W : World} {p c : Nat} {ga : Option Addr} (h : WhyAt W p c ga) : Calls Tryz.prog 7 #[.string ⟨#[108, 101, 110, 115, 32, 97, 32, 52, 48, 10, 102, 97, 99, 101, 32, 48, 32, 53, 32, 49, 32, 97, 105, 114, 32, 97, 52, 32, 49, 32, 99, 111, 110, 105, 99, 32, 49]⟩, .pointer (some ⟨p, 0, none⟩)] W fun e w' => e = .returned (.tuple #[.complex .f64 4611686018427387904 4626604192193052672, .int .i64 2]) ∧ More W w' := by
  have h := lwhy_k (R := .error ⟨2, 21, 2⟩) [108, 101, 110, 115, 32, 97, 32, 52, 48, 10, 102, 97, 99, 101, 32, 48, 32, 53, 32, 49, 32, 97, 105, 114, 32, 97, 52, 32, 49, 32, 99, 111, 110, 105, 99, 32, 49] (by kernel_rfl) (by decide) p c ga W h.lt h.cell h.gls
  simp only [plV2, flO, nwl_2, nwl_21] at h
  exact h

theorem lwhy_7 {W : World} {p c : Nat} {ga : Option Addr} (h : WhyAt W p c ga) : Calls Tryz.prog 7 #[.string ⟨#[108, 101, 110, 115, 32, 97, 32, 52, 48, 10, 102, 97, 99, 101, 32, 48, 32, 53, 32, 49, 32, 97, 105, 114, 32, 97, 52, 32, 48]⟩, .pointer (some ⟨p, 0, none⟩)] W fun e w' => e = .returned (.tuple #[.complex .f64 4611686018427387904 4626041242239631360, .int .i64 1]) ∧ More W w' := by
  have h := lwhy_k (R := .error ⟨2, 19, 1⟩) [108, 101, 110, 115, 32, 97, 32, 52, 48, 10, 102, 97, 99, 101, 32, 48, 32, 53, 32, 49, 32, 97, 105, 114, 32, 97, 52, 32, 48] (by kernel_rfl) (by decide) p c ga W h.lt h.cell h.gls
  simp only [plV2, flO, nwl_19, nwl_2] at h
  exact h

theorem lwhy_8 {W : World} {p c : Nat} {ga : Option Addr} (h : WhyAt W p c ga) : Calls Tryz.prog 7 #[.string ⟨#[108, 101, 110, 115, 32, 97, 32, 52, 48, 10, 115, 116, 111, 112, 32, 53, 32, 49]⟩, .pointer (some ⟨p, 0, none⟩)] W fun e w' => e = .returned (.tuple #[.complex .f64 0 0, .int .i64 1]) ∧ More W w' := by
  have h := lwhy_k (R := .error ⟨0, 0, 1⟩) [108, 101, 110, 115, 32, 97, 32, 52, 48, 10, 115, 116, 111, 112, 32, 53, 32, 49] (by kernel_rfl) (by decide) p c ga W h.lt h.cell h.gls
  simp only [plV2, flO, nw_zero] at h
  exact h

theorem lwhy_9 {W : World} {p c : Nat} {ga : Option Addr} (h : WhyAt W p c ga) : Calls Tryz.prog 7 #[.string ⟨#[108, 101, 110, 115, 32, 97, 32, 52, 48, 10, 114, 101, 99, 116, 32, 53, 32, 49]⟩, .pointer (some ⟨p, 0, none⟩)] W fun e w' => e = .returned (.tuple #[.complex .f64 4611686018427387904 4607182418800017408, .int .i64 2]) ∧ More W w' := by
  have h := lwhy_k (R := .error ⟨2, 1, 2⟩) [108, 101, 110, 115, 32, 97, 32, 52, 48, 10, 114, 101, 99, 116, 32, 53, 32, 49] (by kernel_rfl) (by decide) p c ga W h.lt h.cell h.gls
  simp only [plV2, flO, nwl_1, nwl_2] at h
  exact h

theorem lwhy_10 {W : World} {p c : Nat} {ga : Option Addr} (h : WhyAt W p c ga) : Calls Tryz.prog 7 #[.string ⟨#[108, 101, 110, 115, 32, 97, 32, 52, 48, 10, 102, 97, 99, 101, 32, 48, 32, 53]⟩, .pointer (some ⟨p, 0, none⟩)] W fun e w' => e = .returned (.tuple #[.complex .f64 4611686018427387904 4621256167635550208, .int .i64 2]) ∧ More W w' := by
  have h := lwhy_k (R := .error ⟨2, 9, 2⟩) [108, 101, 110, 115, 32, 97, 32, 52, 48, 10, 102, 97, 99, 101, 32, 48, 32, 53] (by kernel_rfl) (by decide) p c ga W h.lt h.cell h.gls
  simp only [plV2, flO, nwl_2, nwl_9] at h
  exact h

def lineB : List UInt8 := [102, 97, 99, 101, 32, 48, 32, 53, 32, 49, 32, 97, 105, 114, 10]
def manyB : Nat → List UInt8
  | 0 => [108, 101, 110, 115, 32, 97, 32, 52, 48, 10]
  | k + 1 => manyB k ++ lineB
theorem manyB_len : ∀ k, (manyB k).length = 10 + k * 15
  | 0 => rfl
  | k + 1 => by
    show (manyB k ++ lineB).length = _
    rw [List.length_append, manyB_len k]
    show 10 + k * 15 + 15 = _
    omega
theorem lwhy_many {W : World} {p c : Nat} {ga : Option Addr} (h : WhyAt W p c ga) : Calls Tryz.prog 7 #[.string (bsOf (manyB 13)), .pointer (some ⟨p, 0, none⟩)] W fun e w' => e = .returned (.tuple #[.complex .f64 4624070917402656768 4607182418800017408, .int .i64 3]) ∧ More W w' := by
  have h := lwhy_k (R := .error ⟨14, 1, 3⟩) (manyB 13) (by kernel_rfl) (by rw [manyB_len]; decide) p c ga W h.lt h.cell h.gls
  simp only [plV2, flO, nwl_14, nwl_1] at h
  exact h

def lF0 : Fc := ⟨false, ⟨305, 1⟩, ⟨5, 0⟩, ⟨1, 0⟩, ⟨-1, 0⟩, ⟨0, 0⟩, ⟨2, 0⟩, [99, 114, 111, 119, 110]⟩
def lF1 : Fc := ⟨true, ⟨0, 0⟩, ⟨4, 0⟩, ⟨5, 1⟩, ⟨0, 0⟩, ⟨0, 0⟩, ⟨0, 0⟩, []⟩
def lF2 : Fc := ⟨false, ⟨-30, 0⟩, ⟨5, 0⟩, ⟨0, 0⟩, ⟨0, 0⟩, ⟨-1, 2⟩, ⟨0, 0⟩, [97, 105, 114]⟩
def lFs : List Fc := [lF0, lF1, lF2]
def lLn : Ln := ⟨[97], ⟨40, 0⟩, lFs⟩
def bLn : Ln := ⟨[49], ⟨40, 0⟩, lFs⟩
theorem lText : textP lLn = [108, 101, 110, 115, 32, 97, 32, 52, 48, 10, 102, 97, 99, 101, 32, 51, 48, 46, 53, 32, 53, 32, 49, 32, 99, 114, 111, 119, 110, 32, 99, 111, 110, 105, 99, 32, 45, 49, 32, 97, 54, 32, 50, 10, 115, 116, 111, 112, 32, 52, 32, 48, 46, 53, 10, 102, 97, 99, 101, 32, 45, 51, 48, 32, 53, 32, 48, 32, 97, 105, 114, 32, 97, 52, 32, 45, 48, 46, 48, 49, 10] := by kernel_rfl
theorem bText : textP bLn = [108, 101, 110, 115, 32, 49, 32, 52, 48, 10, 102, 97, 99, 101, 32, 51, 48, 46, 53, 32, 53, 32, 49, 32, 99, 114, 111, 119, 110, 32, 99, 111, 110, 105, 99, 32, 45, 49, 32, 97, 54, 32, 50, 10, 115, 116, 111, 112, 32, 52, 32, 48, 46, 53, 10, 102, 97, 99, 101, 32, 45, 51, 48, 32, 53, 32, 48, 32, 97, 105, 114, 32, 97, 52, 32, 45, 48, 46, 48, 49, 10] := by kernel_rfl
theorem lFaces_short : ∀ f ∈ lFs, (faceP f).length ≤ 1000 := by
  intro f hf
  simp only [lFs, List.mem_cons, List.not_mem_nil, or_false] at hf
  rcases hf with rfl | rfl | rfl
  · have : faceP lF0 = [102, 97, 99, 101, 32, 51, 48, 46, 53, 32, 53, 32, 49, 32, 99, 114, 111, 119, 110, 32, 99, 111, 110, 105, 99, 32, 45, 49, 32, 97, 54, 32, 50, 10] := by kernel_rfl
    rw [this]
    decide
  · have : faceP lF1 = [115, 116, 111, 112, 32, 52, 32, 48, 46, 53, 10] := by kernel_rfl
    rw [this]
    decide
  · have : faceP lF2 = [102, 97, 99, 101, 32, 45, 51, 48, 32, 53, 32, 48, 32, 97, 105, 114, 32, 97, 52, 32, 45, 48, 46, 48, 49, 10] := by kernel_rfl
    rw [this]
    decide
theorem lShort : Short lLn := by
  refine ⟨?_, lFaces_short, by decide⟩
  have : headP3 lLn.name lLn.back = [108, 101, 110, 115, 32, 97, 32, 52, 48, 10] := by kernel_rfl
  rw [this]
  decide
theorem bShort : Short bLn := by
  refine ⟨?_, lFaces_short, by decide⟩
  have : headP3 bLn.name bLn.back = [108, 101, 110, 115, 32, 49, 32, 52, 48, 10] := by kernel_rfl
  rw [this]
  decide
theorem lRead : readLn gNames [108, 101, 110, 115, 32, 97, 32, 52, 48, 10, 10, 102, 97, 99, 101, 32, 51, 48, 46, 53, 32, 53, 32, 49, 32, 99, 114, 111, 119, 110, 32, 99, 111, 110, 105, 99, 32, 45, 49, 32, 97, 54, 32, 50, 10, 115, 116, 111, 112, 32, 52, 32, 48, 46, 53, 32, 35, 32, 104, 101, 114, 101, 10, 102, 97, 99, 101, 32, 45, 51, 48, 32, 53, 32, 48, 32, 97, 105, 114, 32, 97, 52, 32, 45, 48, 46, 48, 49] = .ok lLn := by kernel_rfl
theorem lRead_yes : readLn gNames (textP lLn) = .ok lLn := by
  rw [lText]
  kernel_rfl
theorem lRead_no : readLn (([] : List Gl).map Gl.name) (textP lLn) = .error ⟨2, 15, 4⟩ := by
  rw [lText]
  kernel_rfl
theorem bRead_no : readLn gNames (textP bLn) = .error ⟨1, 6, 2⟩ := by
  rw [bText]
  kernel_rfl
theorem bRead_ask : readLn ((bLn.faces.map askG).map Gl.name) (textP bLn) = .error ⟨1, 6, 2⟩ := by
  rw [bText]
  kernel_rfl
theorem eql_dec (c s : Int) (w : World) : (binOp .eql 27 (.agg #[.int .i64 c, .int .i64 s]) (.agg #[.int .i64 c, .int .i64 s])).run Tryz.prog w = .ok (.bool true) w := by
  have hS : Tryz.prog.underlying 27 = some (.struct (Tryz.prog.fieldsOf 27)) := by kernel_rfl
  have hp : Tryz.prog.stoodInHeld 27 = false := by kernel_rfl
  rw [run_eql_struct, show (10000 : Nat) = 9999 + 1 from rfl, run_equalIn_agg w 9999 _ _ _ hS hp]
  simp only [Program.fieldsOf, Tryz.underlying27]
  go_simp
set_option maxHeartbeats 4000000 in
set_option maxRecDepth 100000 in
theorem eql_fc (p : Bool) (s : ByteArray) (x1 x2 x3 x4 x5 x6 x7 x8 x9 x10 x11 x12 : Int) (w : World) :
    (binOp .eql 37 (.agg #[.bool p, .int .i64 x1, .int .i64 x2, .int .i64 x3, .int .i64 x4, .int .i64 x5, .int .i64 x6, .int .i64 x7, .int .i64 x8, .int .i64 x9, .int .i64 x10, .int .i64 x11, .int .i64 x12, .string s]) (.agg #[.bool p, .int .i64 x1, .int .i64 x2, .int .i64 x3, .int .i64 x4, .int .i64 x5, .int .i64 x6, .int .i64 x7, .int .i64 x8, .int .i64 x9, .int .i64 x10, .int .i64 x11, .int .i64 x12, .string s])).run Tryz.prog w = .ok (.bool true) w := by
  have hS : Tryz.prog.underlying 37 = some (.struct (Tryz.prog.fieldsOf 37)) := by kernel_rfl
  have hp : Tryz.prog.stoodInHeld 37 = false := by kernel_rfl
  have hd := eqIn_dec
  rw [run_eql_struct, show (10000 : Nat) = 9999 + 1 from rfl, run_equalIn_agg w 9999 _ _ _ hS hp]
  simp only [Program.fieldsOf, Tryz.underlying37]
  go_simp

theorem lreadk (W : World) (ga : Option Addr) (c : Nat) (hg : Gls W (.slice ga 2 c) (glassesG [])) : Calls Tryz.prog 8 #[.string ⟨#[108, 101, 110, 115, 32, 97, 32, 52, 48, 10, 10, 102, 97, 99, 101, 32, 51, 48, 46, 53, 32, 53, 32, 49, 32, 99, 114, 111, 119, 110, 32, 99, 111, 110, 105, 99, 32, 45, 49, 32, 97, 54, 32, 50, 10, 115, 116, 111, 112, 32, 52, 32, 48, 46, 53, 32, 35, 32, 104, 101, 114, 101, 10, 102, 97, 99, 101, 32, 45, 51, 48, 32, 53, 32, 48, 32, 97, 105, 114, 32, 97, 52, 32, 45, 48, 46, 48, 49]⟩, .slice ga 2 c] W fun e w' => ∃ b o lc, e = .returned (.tuple #[.agg #[.string ⟨#[97]⟩, .int .i64 40, .int .i64 0, .slice (some ⟨b, o, none⟩) 3 lc], .complex .f64 0 0, .int .i64 0]) ∧ More W w' ∧ b < w'.heap.size ∧ Fcs w' (.slice (some ⟨b, o, none⟩) 3 lc) lFs := by
  have h := readl_c [108, 101, 110, 115, 32, 97, 32, 52, 48, 10, 10, 102, 97, 99, 101, 32, 51, 48, 46, 53, 32, 53, 32, 49, 32, 99, 114, 111, 119, 110, 32, 99, 111, 110, 105, 99, 32, 45, 49, 32, 97, 54, 32, 50, 10, 115, 116, 111, 112, 32, 52, 32, 48, 46, 53, 32, 35, 32, 104, 101, 114, 101, 10, 102, 97, 99, 101, 32, 45, 51, 48, 32, 53, 32, 48, 32, 97, 105, 114, 32, 97, 52, 32, 45, 48, 46, 48, 49] (.slice ga 2 c) (glassesG []) W (by decide) hg (by decide)
  rw [show readLn ((glassesG []).map Gl.name) [108, 101, 110, 115, 32, 97, 32, 52, 48, 10, 10, 102, 97, 99, 101, 32, 51, 48, 46, 53, 32, 53, 32, 49, 32, 99, 114, 111, 119, 110, 32, 99, 111, 110, 105, 99, 32, 45, 49, 32, 97, 54, 32, 50, 10, 115, 116, 111, 112, 32, 52, 32, 48, 46, 53, 32, 35, 32, 104, 101, 114, 101, 10, 102, 97, 99, 101, 32, 45, 51, 48, 32, 53, 32, 48, 32, 97, 105, 114, 32, 97, 52, 32, 45, 48, 46, 48, 49] = .ok lLn from lRead] at h
  refine h.mono ?_
  rintro e w' ⟨lv, rfl, hm, hr⟩
  have hr : Fcs w' lv lFs := hr
  obtain ⟨ao, c, rfl, hc⟩ := grow_form fcs_pos hr
  obtain ⟨b, o, rfl, hb, hd⟩ := hc (by decide)
  refine ⟨b, o, c, ?_, hm, hb, hr⟩
  show Ending.returned (.tuple #[_, plV2 0 0, _]) = _
  rw [plV2_zero]
  rfl

set_option maxHeartbeats 4000000 in
set_option maxRecDepth 100000 in
theorem lensKnown_walk (w : World) (ht : Tab w) : Calls Tryz.prog 3 #[] w fun e w' => e = .returned (.bool true) ∧ More w w' := by
  have z0 : ∀ w, (binOp .eql 24 (.complex .f64 0 0) (.complex .f64 0 0)).run Tryz.prog w = .ok (.bool true) w := fun w => by kernel_rfl
  have z1 : ∀ w, (binOp .eql 24 (.complex .f64 4607182418800017408 4620693217682128896) (.complex .f64 4607182418800017408 4620693217682128896)).run Tryz.prog w = .ok (.bool true) w := fun w => by kernel_rfl
  have z2 : ∀ w, (binOp .eql 24 (.complex .f64 4611686018427387904 4607182418800017408) (.complex .f64 4611686018427387904 4607182418800017408)).run Tryz.prog w = .ok (.bool true) w := fun w => by kernel_rfl
  have z3 : ∀ w, (binOp .eql 24 (.complex .f64 4611686018427387904 4618441417868443648) (.complex .f64 4611686018427387904 4618441417868443648)).run Tryz.prog w = .ok (.bool true) w := fun w => by kernel_rfl
  have z4 : ∀ w, (binOp .eql 24 (.complex .f64 4611686018427387904 4620693217682128896) (.complex .f64 4611686018427387904 4620693217682128896)).run Tryz.prog w = .ok (.bool true) w := fun w => by kernel_rfl
  have z5 : ∀ w, (binOp .eql 24 (.complex .f64 4611686018427387904 4621256167635550208) (.complex .f64 4611686018427387904 4621256167635550208)).run Tryz.prog w = .ok (.bool true) w := fun w => by kernel_rfl
  have z6 : ∀ w, (binOp .eql 24 (.complex .f64 4611686018427387904 4621819117588971520) (.complex .f64 4611686018427387904 4621819117588971520)).run Tryz.prog w = .ok (.bool true) w := fun w => by kernel_rfl
  have z7 : ∀ w, (binOp .eql 24 (.complex .f64 4611686018427387904 4622945017495814144) (.complex .f64 4611686018427387904 4622945017495814144)).run Tryz.prog w = .ok (.bool true) w := fun w => by kernel_rfl
  have z8 : ∀ w, (binOp .eql 24 (.complex .f64 4611686018427387904 4626041242239631360) (.complex .f64 4611686018427387904 4626041242239631360)).run Tryz.prog w = .ok (.bool true) w := fun w => by kernel_rfl
  have z9 : ∀ w, (binOp .eql 24 (.complex .f64 4611686018427387904 4626604192193052672) (.complex .f64 4611686018427387904 4626604192193052672)).run Tryz.prog w = .ok (.bool true) w := fun w => by kernel_rfl
  have z10 : ∀ w, (binOp .eql 24 (.complex .f64 4624070917402656768 4607182418800017408) (.complex .f64 4624070917402656768 4607182418800017408)).run Tryz.prog w = .ok (.bool true) w := fun w => by kernel_rfl
  have hmf : ∀ (fn : Fn) (first cap : Array Value) (w : World), (Instr.makeFunc fn first cap).run Tryz.prog w = .ok (.func fn first cap) w := fun _ _ _ _ => rfl
  go_enter Tryz.func3, Tryz.ntmps3
  go_wp2_with fail
  go_at_call 6
  refine Calls.mono (glasses_c (.slice none 0 0) [] _ (.inl ⟨rfl, _, _, rfl⟩) (fun n h => by cases h) (by simp)) ?_
  rintro e u1 ⟨v1, rfl, hM1, hg1⟩
  obtain ⟨ga, ca, rfl, -⟩ := grow_form gls_pos hg1
  have hlen : (glassesG []).length = 2 := rfl
  rw [hlen] at hg1 ⊢
  clear hlen
  have hW : WhyAt (u1.alloc (.cells #[.slice ga 2 ca] 22)) u1.heap.size ca ga := ⟨by simp, by have h := heap_alloc_new u1 (.cells #[.slice ga 2 ca] 22); simp only [World.cell?, h]; rfl, hg1.alloc⟩
  have HW := Lib.hid hW
  have HM1 := Lib.hid hM1
  clear hW hM1 hg1
  go_wp2_with fail
  go_at_call 8
  refine Calls.mono (lreadk _ ga ca (HW.out.up (by repeat (first | exact More.refl _ | refine More.alloc ?_ _ | refine More.more ?_ _ | refine More.drew ?_ | refine More.drewN ?_ _))).gls) ?_
  rintro e w' ⟨b, o, lc, rfl, ⟨r1, rfl⟩, hb, hF⟩
  have HF := Lib.hid hF
  obtain ⟨b0, o0, e0, hb0, hL0, -⟩ := fcs_at (k := 0) (f := lF0) hF rfl
  obtain ⟨b1, o1, e1, hb1, hL1, -⟩ := fcs_at (k := 1) (f := lF1) hF rfl
  cases e0
  cases e1
  have l0 : ∀ W', More (more (u1.alloc (.cells #[.slice ga 2 ca] 22)) r1) W' → (loadWhole 37 ⟨b, o, none⟩).run Tryz.prog W' = .ok (.agg #[.bool false, .int .i64 305, .int .i64 1, .int .i64 5, .int .i64 0, .int .i64 1, .int .i64 0, .int .i64 (-1), .int .i64 0, .int .i64 0, .int .i64 0, .int .i64 2, .int .i64 0, .string ⟨#[99, 114, 111, 119, 110]⟩]) W' := by
    rintro W' ⟨r, rfl⟩
    have := hL0 r
    simp only [Nat.zero_mul, Nat.add_zero] at this
    exact this
  have l1 : ∀ W', More (more (u1.alloc (.cells #[.slice ga 2 ca] 22)) r1) W' → (loadWhole 37 ⟨b, o + 14, none⟩).run Tryz.prog W' = .ok (.agg #[.bool true, .int .i64 0, .int .i64 0, .int .i64 4, .int .i64 0, .int .i64 5, .int .i64 1, .int .i64 0, .int .i64 0, .int .i64 0, .int .i64 0, .int .i64 0, .int .i64 0, .string ⟨#[]⟩]) W' := by
    rintro W' ⟨r, rfl⟩
    have := hL1 r
    simp only [Nat.one_mul] at this
    exact this
  have m0 : ∀ (Q : Rest) (o3 ob : Obj), (loadWhole 37 ⟨b, o, none⟩).run Tryz.prog ((more ((more (u1.alloc (.cells #[.slice ga 2 ca] 22)) r1).alloc o3) Q).alloc ob) = .ok (.agg #[.bool false, .int .i64 305, .int .i64 1, .int .i64 5, .int .i64 0, .int .i64 1, .int .i64 0, .int .i64 (-1), .int .i64 0, .int .i64 0, .int .i64 0, .int .i64 2, .int .i64 0, .string ⟨#[99, 114, 111, 119, 110]⟩]) ((more ((more (u1.alloc (.cells #[.slice ga 2 ca] 22)) r1).alloc o3) Q).alloc ob) := fun Q o3 ob => l0 _ (by repeat (first | exact More.refl _ | refine More.alloc ?_ _ | refine More.more ?_ _ | refine More.drew ?_ | refine More.drewN ?_ _))
  have m1 : ∀ (Q : Rest) (o3 ob : Obj), (loadWhole 37 ⟨b, o + 14, none⟩).run Tryz.prog ((more ((more (u1.alloc (.cells #[.slice ga 2 ca] 22)) r1).alloc o3) Q).alloc ob) = .ok (.agg #[.bool true, .int .i64 0, .int .i64 0, .int .i64 4, .int .i64 0, .int .i64 5, .int .i64 1, .int .i64 0, .int .i64 0, .int .i64 0, .int .i64 0, .int .i64 0, .int .i64 0, .string ⟨#[]⟩]) ((more ((more (u1.alloc (.cells #[.slice ga 2 ca] 22)) r1).alloc o3) Q).alloc ob) := fun Q o3 ob => l1 _ (by repeat (first | exact More.refl _ | refine More.alloc ?_ _ | refine More.more ?_ _ | refine More.drew ?_ | refine More.drewN ?_ _))
  have d0 : (more (u1.alloc (.cells #[.slice ga 2 ca] 22)) r1).cell? ⟨b, o + 37, none⟩ = some (.int .i64 (-1)) := gcell (a := lF2) (k := 2) hF rfl 9 _ rfl
  have d1 : (more (u1.alloc (.cells #[.slice ga 2 ca] 22)) r1).cell? ⟨b, o + 38, none⟩ = some (.int .i64 2) := gcell (a := lF2) (k := 2) hF rfl 10 _ rfl
  have M0 := Lib.hid m0
  have M1 := Lib.hid m1
  have n0 : ∀ (Q : Rest) (o3 ob : Obj), ((more ((more (u1.alloc (.cells #[.slice ga 2 ca] 22)) r1).alloc o3) Q).alloc ob).cell? ⟨b, o + 37, none⟩ = some (.int .i64 (-1)) := fun Q o3 ob => lc_alloc _ (lc_more _ (lc_alloc _ d0))
  have n1 : ∀ (Q : Rest) (o3 ob : Obj), ((more ((more (u1.alloc (.cells #[.slice ga 2 ca] 22)) r1).alloc o3) Q).alloc ob).cell? ⟨b, o + 38, none⟩ = some (.int .i64 2) := fun Q o3 ob => lc_alloc _ (lc_more _ (lc_alloc _ d1))
  have D0' := Lib.hid n0
  have D1' := Lib.hid n1
  clear l0 l1 m0 m1 n0 n1 hL0 hL1 d0 d1 hF hb0 hb1
  have hbw : ∀ W', More (more (u1.alloc (.cells #[.slice ga 2 ca] 22)) r1) W' → Fcs W' (.slice (some ⟨b, o, none⟩) 3 lc) lFs ∧ Tab W' ∧ WhyAt W' u1.heap.size ca ga := fun W' h => ⟨HF.out.up h, Tab.up (HM1.out.trans (More.trans (by repeat (first | exact More.refl _ | refine More.alloc ?_ _ | refine More.more ?_ _ | refine More.drew ?_ | refine More.drewN ?_ _)) h)) ht, (HW.out.up (by repeat (first | exact More.refl _ | refine More.alloc ?_ _ | refine More.more ?_ _ | refine More.drew ?_ | refine More.drewN ?_ _))).up h⟩
  have HB := Lib.hid hbw
  clear hbw
  go_wp2_with (first | (go_at_call 9; (refine Calls.mono (known12_c _ (HB.out _ (by repeat (first | exact More.refl _ | refine More.alloc ?_ _ | refine More.more ?_ _ | refine More.drew ?_ | refine More.drewN ?_ _))).2.1) ?_); rintro e w' ⟨rfl, r2, rfl⟩))
  go_wp2_with (first | (go_at_call 7; (with_reducible refine Calls.mono (lwhy_0 (HB.out _ (by repeat (first | exact More.refl _ | refine More.alloc ?_ _ | refine More.more ?_ _ | refine More.drew ?_ | refine More.drewN ?_ _))).2.2) ?_); rintro e w' ⟨rfl, q0, rfl⟩))
  go_wp2_with (first | (go_at_call 7; (with_reducible refine Calls.mono (lwhy_1 (HB.out _ (by repeat (first | exact More.refl _ | refine More.alloc ?_ _ | refine More.more ?_ _ | refine More.drew ?_ | refine More.drewN ?_ _))).2.2) ?_); rintro e w' ⟨rfl, q1, rfl⟩))
  go_wp2_with (first | (go_at_call 7; (with_reducible refine Calls.mono (lwhy_2 (HB.out _ (by repeat (first | exact More.refl _ | refine More.alloc ?_ _ | refine More.more ?_ _ | refine More.drew ?_ | refine More.drewN ?_ _))).2.2) ?_); rintro e w' ⟨rfl, q2, rfl⟩))
  go_wp2_with (first | (go_at_call 7; (with_reducible refine Calls.mono (lwhy_3 (HB.out _ (by repeat (first | exact More.refl _ | refine More.alloc ?_ _ | refine More.more ?_ _ | refine More.drew ?_ | refine More.drewN ?_ _))).2.2) ?_); rintro e w' ⟨rfl, q3, rfl⟩))
  go_wp2_with (first | (go_at_call 7; (with_reducible refine Calls.mono (lwhy_4 (HB.out _ (by repeat (first | exact More.refl _ | refine More.alloc ?_ _ | refine More.more ?_ _ | refine More.drew ?_ | refine More.drewN ?_ _))).2.2) ?_); rintro e w' ⟨rfl, q4, rfl⟩))
  go_wp2_with (first | (go_at_call 7; (with_reducible refine Calls.mono (lwhy_5 (HB.out _ (by repeat (first | exact More.refl _ | refine More.alloc ?_ _ | refine More.more ?_ _ | refine More.drew ?_ | refine More.drewN ?_ _))).2.2) ?_); rintro e w' ⟨rfl, q5, rfl⟩))
  go_wp2_with (first | (go_at_call 7; (with_reducible refine Calls.mono (lwhy_6 (HB.out _ (by repeat (first | exact More.refl _ | refine More.alloc ?_ _ | refine More.more ?_ _ | refine More.drew ?_ | refine More.drewN ?_ _))).2.2) ?_); rintro e w' ⟨rfl, q6, rfl⟩))
  go_wp2_with (first | (go_at_call 7; (with_reducible refine Calls.mono (lwhy_7 (HB.out _ (by repeat (first | exact More.refl _ | refine More.alloc ?_ _ | refine More.more ?_ _ | refine More.drew ?_ | refine More.drewN ?_ _))).2.2) ?_); rintro e w' ⟨rfl, q7, rfl⟩))
  go_wp2_with (first | (go_at_call 7; (with_reducible refine Calls.mono (lwhy_8 (HB.out _ (by repeat (first | exact More.refl _ | refine More.alloc ?_ _ | refine More.more ?_ _ | refine More.drew ?_ | refine More.drewN ?_ _))).2.2) ?_); rintro e w' ⟨rfl, q8, rfl⟩))
  go_wp2_with (first | (go_at_call 7; (with_reducible refine Calls.mono (lwhy_9 (HB.out _ (by repeat (first | exact More.refl _ | refine More.alloc ?_ _ | refine More.more ?_ _ | refine More.drew ?_ | refine More.drewN ?_ _))).2.2) ?_); rintro e w' ⟨rfl, q9, rfl⟩))
  go_wp2_with (first | (go_at_call 7; (with_reducible refine Calls.mono (lwhy_10 (HB.out _ (by repeat (first | exact More.refl _ | refine More.alloc ?_ _ | refine More.more ?_ _ | refine More.drew ?_ | refine More.drewN ?_ _))).2.2) ?_); rintro e w' ⟨rfl, q10, rfl⟩))
  go_loopw [28, 29] (fun y x wr => ∃ (k : Nat) (T : List UInt8), k ≤ 13 ∧ y = .string (bsOf T) ∧ T = manyB k ∧ x = .int .i64 k ∧ ∃ s, wr = more ((more (u1.alloc (.cells #[.slice ga 2 ca] 22)) r1).alloc (.cells #[.string ⟨#[97]⟩, .int .i64 40, .int .i64 0, .slice (some ⟨b, o, none⟩) 3 lc] 30)) s ∧ True) (fun _ x _ => 13 - (intOf x).toNat)
  case atStart => exact ⟨0, [108, 101, 110, 115, 32, 97, 32, 52, 48, 10], by omega, rfl, rfl, rfl, ex_more (show More ((more (u1.alloc (.cells #[.slice ga 2 ca] 22)) r1).alloc (.cells #[.string ⟨#[97]⟩, .int .i64 40, .int .i64 0, .slice (some ⟨b, o, none⟩) 3 lc] 30)) _ from (by repeat (first | exact More.refl _ | refine More.alloc ?_ _ | refine More.more ?_ _ | refine More.drew ?_ | refine More.drewN ?_ _))) fun _ => trivial⟩
  case round =>
    obtain ⟨k, T, hk, rfl, hT, rfl, s, rfl, -⟩ := hrel
    by_cases hk1 : k < 13
    · have hTl := manyB_len k
      rw [← hT] at hTl
      have hTl2 : T.length ≤ 205 := by omega
      have HT := Lib.hid hT
      clear hT hTl
      go_wp2_with fail
      go_roundw
      case rel => exact ⟨k + 1, _, by omega, rfl, (by rw [HT.out]; rfl), rfl, s, rfl, trivial⟩
      case measure => simp [intOf] <;> omega
    · obtain rfl : k = 13 := by omega
      subst hT
      have M0' := M0.out
      have M1' := M1.out
      have E0 := eql_fc false ⟨#[99, 114, 111, 119, 110]⟩ 305 1 5 0 1 0 (-1) 0 0 0 2 0
      have E1 := eql_fc true ⟨#[]⟩ 0 0 4 0 5 1 0 0 0 0 0 0
      have E2 := eql_dec (-1) 2
      have D0'' := D0'.out
      have D1'' := D1'.out
      have hRb : ∀ W', More (more (u1.alloc (.cells #[.slice ga 2 ca] 22)) r1) W' → Calls Tryz.prog 10 #[.agg #[.string ⟨#[49]⟩, .int .i64 40, .int .i64 0, .slice (some ⟨b, o, none⟩) 3 lc], .slice ga 2 ca] W' fun e w' => e = .returned (.bool false) ∧ More W' w' := fun W' h => rightl_no bLn _ _ (glassesG []) W' ⟨1, 6, 2⟩ (HB.out _ h).1 (HB.out _ h).2.2.gls (by decide) bShort (by decide) (HB.out _ h).2.1 bRead_no (by decide)
      have hPb : ∀ W', More (more (u1.alloc (.cells #[.slice ga 2 ca] 22)) r1) W' → Calls Tryz.prog 11 #[.agg #[.string ⟨#[49]⟩, .int .i64 40, .int .i64 0, .slice (some ⟨b, o, none⟩) 3 lc]] W' fun e w' => e = .returned (.string ⟨#[]⟩) ∧ More W' w' := fun W' h => printl_no bLn _ W' ⟨1, 6, 2⟩ (HB.out _ h).1 bShort (by decide) (HB.out _ h).2.1 bRead_ask (by decide)
      have hRl : ∀ W', More (more (u1.alloc (.cells #[.slice ga 2 ca] 22)) r1) W' → Calls Tryz.prog 10 #[.agg #[.string ⟨#[97]⟩, .int .i64 40, .int .i64 0, .slice (some ⟨b, o, none⟩) 3 lc], .slice ga 2 ca] W' fun e w' => e = .returned (.bool true) ∧ More W' w' := fun W' h => rightl_yes lLn _ _ (glassesG []) W' (HB.out _ h).1 (HB.out _ h).2.2.gls (by decide) lShort (by decide) (HB.out _ h).2.1 lRead_yes
      have hRn : ∀ W', More (more (u1.alloc (.cells #[.slice ga 2 ca] 22)) r1) W' → Calls Tryz.prog 10 #[.agg #[.string ⟨#[97]⟩, .int .i64 40, .int .i64 0, .slice (some ⟨b, o, none⟩) 3 lc], .slice none 0 0] W' fun e w' => e = .returned (.bool false) ∧ More W' w' := fun W' h => rightl_no lLn _ _ [] W' ⟨2, 15, 4⟩ (HB.out _ h).1 (gls_none W') (by decide) lShort (by decide) (HB.out _ h).2.1 lRead_no (by decide)
      have hSl : ∀ W', More (more (u1.alloc (.cells #[.slice ga 2 ca] 22)) r1) W' → Calls Tryz.prog 12 #[.agg #[.string ⟨#[97]⟩, .int .i64 40, .int .i64 0, .slice (some ⟨b, o, none⟩) 3 lc], .agg #[.string ⟨#[97]⟩, .int .i64 40, .int .i64 0, .slice (some ⟨b, o, none⟩) 3 lc]] W' fun e w' => e = .returned (.bool true) ∧ More W' w' := fun W' h => same_yes lLn _ _ W' (HB.out _ h).1 (HB.out _ h).1 (by decide)
      have hSb : ∀ W', More (more (u1.alloc (.cells #[.slice ga 2 ca] 22)) r1) W' → Calls Tryz.prog 12 #[.agg #[.string ⟨#[97]⟩, .int .i64 40, .int .i64 0, .slice (some ⟨b, o, none⟩) 3 lc], .agg #[.string ⟨#[49]⟩, .int .i64 40, .int .i64 0, .slice (some ⟨b, o, none⟩) 3 lc]] W' fun e w' => e = .returned (.bool false) ∧ More W' w' := fun W' h => same_name lLn bLn _ _ W' (HB.out _ h).1 (HB.out _ h).1 (by decide)
      have HRb := Lib.hid hRb
      have HPb := Lib.hid hPb
      have HRl := Lib.hid hRl
      have HRn := Lib.hid hRn
      have HSl := Lib.hid hSl
      have HSb := Lib.hid hSb
      clear hRb hPb hRl hRn hSl hSb
      go_wp2_with (first | (go_at_call 7; (with_reducible refine Calls.mono (lwhy_many (HB.out _ (by repeat (first | exact More.refl _ | refine More.alloc ?_ _ | refine More.more ?_ _ | refine More.drew ?_ | refine More.drewN ?_ _))).2.2) ?_); rintro e w' ⟨rfl, r9, rfl⟩))
      all_goals (try simp only [List.append_eq, List.cons_append, List.nil_append])
      go_wp2_with (first
        | (go_at_call 10; (with_reducible refine Calls.mono (HRb.out _ (by repeat (first | exact More.refl _ | refine More.alloc ?_ _ | refine More.more ?_ _ | refine More.drew ?_ | refine More.drewN ?_ _))) ?_); rintro e w' ⟨rfl, r11, rfl⟩)
        | (go_at_call 10; (with_reducible refine Calls.mono (HRl.out _ (by repeat (first | exact More.refl _ | refine More.alloc ?_ _ | refine More.more ?_ _ | refine More.drew ?_ | refine More.drewN ?_ _))) ?_); rintro e w' ⟨rfl, r12, rfl⟩)
        | (go_at_call 10; (with_reducible refine Calls.mono (HRn.out _ (by repeat (first | exact More.refl _ | refine More.alloc ?_ _ | refine More.more ?_ _ | refine More.drew ?_ | refine More.drewN ?_ _))) ?_); rintro e w' ⟨rfl, r13, rfl⟩)
        | (go_at_call 11; (with_reducible refine Calls.mono (HPb.out _ (by repeat (first | exact More.refl _ | refine More.alloc ?_ _ | refine More.more ?_ _ | refine More.drew ?_ | refine More.drewN ?_ _))) ?_); rintro e w' ⟨rfl, r14, rfl⟩)
        | (go_at_call 12; (with_reducible refine Calls.mono (HSl.out _ (by repeat (first | exact More.refl _ | refine More.alloc ?_ _ | refine More.more ?_ _ | refine More.drew ?_ | refine More.drewN ?_ _))) ?_); rintro e w' ⟨rfl, r15, rfl⟩)
        | (go_at_call 12; (with_reducible refine Calls.mono (HSb.out _ (by repeat (first | exact More.refl _ | refine More.alloc ?_ _ | refine More.more ?_ _ | refine More.drew ?_ | refine More.drewN ?_ _))) ?_); rintro e w' ⟨rfl, r16, rfl⟩))
      go_returns
      exact ⟨rfl, HM1.out.trans (by repeat (first | exact More.refl _ | refine More.alloc ?_ _ | refine More.more ?_ _ | refine More.drew ?_ | refine More.drewN ?_ _))⟩

end Go.Proofs.YtgikkcnpnnbgdaaGreatDoor

