/-
  Chapter 13's example: the walk of 'known'.
-/
import Derived.Test.YtekhhekkepijoaaGreatDoorSys4
import Derived.Test.YtekhhekkepijoaaGreatDoorGk
import Derived.Test.YtekhhekkepijoaaGreatDoorLensBkRd
import Derived.Deep.RegionLaw
import Derived.Deep.Cut
namespace Go.Proofs.YtekhhekkepijoaaGreatDoor
set_option linter.unusedVariables false
open Go.ChangeShapes Go.WideShapes Go.ChangeAt Go.RowKit

def yF0 : Fc := ⟨false, ⟨0, 0⟩, ⟨5, 0⟩, ⟨1, 0⟩, ⟨0, 0⟩, ⟨0, 0⟩, ⟨0, 0⟩, [97, 105, 114]⟩
def yF1 : Fc := ⟨false, ⟨20, 0⟩, ⟨4, 0⟩, ⟨2, 0⟩, ⟨0, 0⟩, ⟨0, 0⟩, ⟨0, 0⟩, [97, 105, 114]⟩
def yLn : Ln := ⟨[97], ⟨40, 0⟩, [yF0, yF1]⟩
def yS0 : Sf := ⟨false, false, ⟨0, 0, false⟩, ⟨65536, 65536, false⟩, ⟨0, 0, false⟩, ⟨0, 0, false⟩, ⟨2621440, 2621440, false⟩, ⟨1638400, 1638400, false⟩, ⟨65536, 65536, false⟩⟩
def yS1 : Sf := ⟨false, false, ⟨3276, 3277, false⟩, ⟨65536, 65536, false⟩, ⟨0, 0, false⟩, ⟨0, 0, false⟩, ⟨2686976, 2686976, false⟩, ⟨1048576, 1048576, false⟩, ⟨65536, 65536, false⟩⟩
theorem yText : textP yLn = [108, 101, 110, 115, 32, 97, 32, 52, 48, 10, 102, 97, 99, 101, 32, 48, 32, 53, 32, 49, 32, 97, 105, 114, 10, 102, 97, 99, 101, 32, 50, 48, 32, 52, 32, 50, 32, 97, 105, 114, 10] := by kernel_rfl
theorem yRead : readLn (([] : List Gl).map Gl.name) [108, 101, 110, 115, 32, 97, 32, 52, 48, 10, 102, 97, 99, 101, 32, 48, 32, 53, 32, 49, 32, 97, 105, 114, 10, 102, 97, 99, 101, 32, 50, 48, 32, 52, 32, 50, 32, 97, 105, 114] = .ok yLn := by kernel_rfl
theorem yRead2 : readLn (([] : List Gl).map Gl.name) (textP yLn) = .ok yLn := by
  rw [yText]
  kernel_rfl
theorem yShort : Short yLn := by
  refine ⟨?_, ?_, by decide⟩
  · have : headP3 yLn.name yLn.back = [108, 101, 110, 115, 32, 97, 32, 52, 48, 10] := by kernel_rfl
    rw [this]
    decide
  · intro f hf
    simp only [yLn, List.mem_cons, List.not_mem_nil, or_false] at hf
    rcases hf with rfl | rfl
    · have : faceP yF0 = [102, 97, 99, 101, 32, 48, 32, 53, 32, 49, 32, 97, 105, 114, 10] := by kernel_rfl
      rw [this]
      decide
    · have : faceP yF1 = [102, 97, 99, 101, 32, 50, 48, 32, 52, 32, 50, 32, 97, 105, 114, 10] := by kernel_rfl
      rw [this]
      decide
theorem yBuild : bq true yLn [] ivNone = (⟨[yS0, yS1], ⟨327680, 327680, false⟩⟩, 0) := by kernel_rfl
theorem eql_self (x1 x2 : Int) (n : Bool) (w : World) : (binOp .eql 36 (.agg #[.int .i64 x1, .int .i64 x2, .bool n]) (.agg #[.int .i64 x1, .int .i64 x2, .bool n])).run Tryz.prog w = .ok (.bool true) w := by
  have h := eql_iv ⟨x1, x2, n⟩ ⟨x1, x2, n⟩ w
  rw [ivEq_iff.2 rfl] at h
  exact h
/-- What is built of the example, in whatever world. -/
theorem yBuild_c (lv : Value) (W : World) (hF : Fcs W lv yLn.faces) (ht : Tab W) : Calls Tryz.prog 8 #[.agg #[.string ⟨#[97]⟩, .int .i64 40, .int .i64 0, lv], .slice none 0 0, ivV ivNone] W fun e w' => ∃ b o c, e = .returned (.tuple #[.agg #[.slice (some ⟨b, o, none⟩) 2 c, .int .i64 327680, .int .i64 327680, .bool false], .int .i64 0]) ∧ More W w' ∧ Sfs w' (.slice (some ⟨b, o, none⟩) 2 c) [yS0, yS1] ∧ NewV W (.slice (some ⟨b, o, none⟩) 2 c) := by
  have h := build_c yLn lv (.slice none 0 0) [] ivNone true W hF (gls_none W) (by decide) (by decide) (by decide) (by decide) (fun W1 hM => rightl_yes yLn lv _ [] W1 (hF.up hM) (gls_none W1) (by decide) yShort (by decide) (Tab.up hM ht) yRead2)
  rw [yBuild] at h
  refine h.mono ?_
  rintro e w' ⟨v', rfl, hM, hS, hN⟩
  have hS : Sfs w' v' [yS0, yS1] := hS
  obtain ⟨ao, c, rfl, hc⟩ := grow_form sfs_pos hS
  obtain ⟨b, o, rfl, -, -⟩ := hc (by decide)
  exact ⟨b, o, c, rfl, hM, hS, hN⟩
theorem yLast_c (b o c : Nat) (W : World) (hS : Sfs W (.slice (some ⟨b, o, none⟩) 2 c) [yS0, yS1]) : Calls Tryz.prog 14 #[.agg #[.slice (some ⟨b, o, none⟩) 2 c, .int .i64 327680, .int .i64 327680, .bool false]] W fun e w' => e = .returned (.agg #[.int .i64 2686976, .int .i64 2686976, .bool false]) ∧ More W w' :=
  slast_c _ [yS0, yS1] ⟨327680, 327680, false⟩ W hS (by decide)


set_option maxHeartbeats 16000000 in
set_option maxRecDepth 100000 in
theorem known13_c (W : World) (ht : Tab W) :
    Calls Tryz.prog 7 #[] W fun e w' => e = .returned (.bool true) ∧ More W w' := by
  have hB : ∀ W1 lv, More W W1 → Fcs W1 lv yLn.faces → Calls Tryz.prog 8 #[.agg #[.string ⟨#[97]⟩, .int .i64 40, .int .i64 0, lv], .slice none 0 0, ivV ivNone] W1 fun e w' => ∃ b o c, e = .returned (.tuple #[.agg #[.slice (some ⟨b, o, none⟩) 2 c, .int .i64 327680, .int .i64 327680, .bool false], .int .i64 0]) ∧ More W1 w' ∧ Sfs w' (.slice (some ⟨b, o, none⟩) 2 c) [yS0, yS1] ∧ NewV W1 (.slice (some ⟨b, o, none⟩) 2 c) := fun W1 lv hM hF => yBuild_c lv W1 hF (Tab.up hM ht)
  have HB := Lib.hid hB
  clear hB
  go_enter Tryz.func7, Tryz.ntmps7
  go_wp2_with fail
  go_at_call 6
  refine Calls.mono (readOk_c _ (.slice none 0 0) [] yLn _ (by decide) (gls_none _) (by decide) yRead) ?_
  rintro e w' ⟨la, lc, rfl, hm, hF⟩
  obtain ⟨r1, rfl⟩ := hm
  have HF := Lib.hid hF
  clear hF
  go_upto_region 2 with fail
  go_cut [4, 5] from 6 (fun p e wx => ∃ (m b o c : Nat), p = .pointer (some ⟨m, 0, none⟩) ∧ e = .int .i64 0 ∧ More W wx ∧ wx.heap[m]? = some (.cells #[.slice (some ⟨b, o, none⟩) 2 c, .int .i64 327680, .int .i64 327680, .bool false] 38 (0, 0)) ∧ Sfs wx (.slice (some ⟨b, o, none⟩) 2 c) [yS0, yS1])
  case first =>
    go_region_law (first | (go_simp; go_at_call 10; (refine Calls.mono (none_c _) ?_); rintro en w' ⟨rfl, r, rfl⟩) | (go_simp; go_at_call 8; (refine Calls.mono (HB.out _ _ (by repeat (first | exact More.refl _ | refine More.alloc ?_ _ | refine More.more ?_ _ | refine More.drew ?_ | refine More.drewN ?_ _)) (HF.out.up (by repeat (first | exact More.refl _ | refine More.alloc ?_ _ | refine More.more ?_ _ | refine More.drew ?_ | refine More.drewN ?_ _)))) ?_); rintro e w' ⟨b, o, c, rfl, ⟨r2, rfl⟩, hS, hN⟩))
    all_goals
      go_wp2_with fail
      go_meet
      exact ⟨_, _, _, _, rfl, rfl, (by repeat (first | exact More.refl _ | refine More.alloc ?_ _ | refine More.more ?_ _ | refine More.drew ?_ | refine More.drewN ?_ _)), heap_at _ (by repeat (first | exact More.refl _ | refine More.alloc ?_ _ | refine More.more ?_ _ | refine More.drew ?_ | refine More.drewN ?_ _)) (by simp [Nat.add_assoc]), (by (try rw [more_more] at hS); first | ((refine GRow.up hS ?_); (repeat (first | exact More.refl _ | refine More.alloc ?_ _ | refine More.more ?_ _)); done) | exact sfs_swap (by simp) hS (hN.less (by simp)))⟩
  case rest =>
    obtain ⟨m, b, o, c, rfl, rfl, hM, hm, hS⟩ := hcut
    have hml : m < wc.heap.size := (Array.getElem?_eq_some_iff.1 hm).1
    have k0 : wc.cell? ⟨m, 0, none⟩ = some (.slice (some ⟨b, o, none⟩) 2 c) := by simp [World.cell?, hm]
    have k1 : wc.cell? ⟨m, 1, none⟩ = some (.int .i64 327680) := by simp [World.cell?, hm]
    have k2 : wc.cell? ⟨m, 2, none⟩ = some (.int .i64 327680) := by simp [World.cell?, hm]
    have k3 : wc.cell? ⟨m, 3, none⟩ = some (.bool false) := by simp [World.cell?, hm]
    have c2 : wc.cell? ⟨b, o + 2, none⟩ = some (.int .i64 0) := gcell (k := 0) hS rfl 2 _ rfl
    have c3 : wc.cell? ⟨b, o + 3, none⟩ = some (.int .i64 0) := gcell (k := 0) hS rfl 3 _ rfl
    have c4 : wc.cell? ⟨b, o + 4, none⟩ = some (.bool false) := gcell (k := 0) hS rfl 4 _ rfl
    have c20 : wc.cell? ⟨b, o + 20, none⟩ = some (.int .i64 65536) := gcell (k := 0) hS rfl 20 _ rfl
    have c21 : wc.cell? ⟨b, o + 21, none⟩ = some (.int .i64 65536) := gcell (k := 0) hS rfl 21 _ rfl
    have c22 : wc.cell? ⟨b, o + 22, none⟩ = some (.bool false) := gcell (k := 0) hS rfl 22 _ rfl
    have c25 : wc.cell? ⟨b, o + 25, none⟩ = some (.int .i64 3276) := gcell (k := 1) hS rfl 2 _ rfl
    have c26 : wc.cell? ⟨b, o + 26, none⟩ = some (.int .i64 3277) := gcell (k := 1) hS rfl 3 _ rfl
    have c27 : wc.cell? ⟨b, o + 27, none⟩ = some (.bool false) := gcell (k := 1) hS rfl 4 _ rfl
    have c37 : wc.cell? ⟨b, o + 37, none⟩ = some (.int .i64 2686976) := gcell (k := 1) hS rfl 14 _ rfl
    have c38 : wc.cell? ⟨b, o + 38, none⟩ = some (.int .i64 2686976) := gcell (k := 1) hS rfl 15 _ rfl
    have c39 : wc.cell? ⟨b, o + 39, none⟩ = some (.bool false) := gcell (k := 1) hS rfl 16 _ rfl
    have hbl : b < wc.heap.size := World.block_lt_of_cell? wc _ c20
    have hlast : ∀ r, Calls Tryz.prog 14 #[.agg #[.slice (some ⟨b, o, none⟩) 2 c, .int .i64 327680, .int .i64 327680, .bool false]] (more wc r) fun e w' => e = .returned (.agg #[.int .i64 2686976, .int .i64 2686976, .bool false]) ∧ More (more wc r) w' := fun r => yLast_c b o c _ hS.more
    have HLAST := Lib.hid hlast
    have HM := Lib.hid hM
    have v1 : ivWhole 1 = ⟨65536, 65536, false⟩ := by kernel_rfl
    have v2 : ivWhole 5 = ⟨327680, 327680, false⟩ := by kernel_rfl
    have v3 : ivWhole 41 = ⟨2686976, 2686976, false⟩ := by kernel_rfl
    have v4 : ivPoint 0 = ⟨0, 0, false⟩ := by kernel_rfl
    have v5 : ivOf 3276 3277 = ⟨3276, 3277, false⟩ := by kernel_rfl
    have E := eql_self
    clear hm hM hS hlast
    go_upto_region 3 with fail
    (first | (with_reducible refine wp_more_quick_m (id := 3) ?_ ?_ ?_) | (refine wp_more_quick (id := 3) ?_ ?_ ?_))
    · kernel_rfl
    · kernel_rfl
    (try simp only [List.append_eq, List.cons_append, List.nil_append])
    (repeat (any_goals (first | go_big_quiet_step ((first | (go_at_call 13; (with_reducible apply quiet_call); with_reducible exact whole_c _ _) | (go_at_call 23; (with_reducible apply quiet_call); with_reducible exact point_c _ _) | (go_at_call 24; (with_reducible apply quiet_call); with_reducible exact of_c _ _ _) | (go_at_call 14; (with_reducible apply quiet_call); exact HLAST.out _))))))
    (with_reducible refine wpQuiet_nil ?_)
    intro r
    go_wp2_with fail
    go_returns
    exact ⟨rfl, HM.out.trans (by repeat (first | exact More.refl _ | refine More.alloc ?_ _ | refine More.more ?_ _ | refine More.drew ?_ | refine More.drewN ?_ _))⟩
end Go.Proofs.YtekhhekkepijoaaGreatDoor
