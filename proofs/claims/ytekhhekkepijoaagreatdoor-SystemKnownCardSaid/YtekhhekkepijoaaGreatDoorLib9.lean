/-
  What the library's calls answer, in plain words: the contracts laid over this program, and two short walks of our own.
-/
import Derived.Test.YtekhhekkepijoaaGreatDoorShelf
import Derived.Test.YtekhhekkepijoaaGreatDoorGa
import Derived.Test.YtekhhekkepijoaaGreatDoorGd
namespace Go.Proofs.YtekhhekkepijoaaGreatDoor
set_option linter.unusedVariables false
open Go.ChangeShapes Go.WideShapes Go.ChangeAt Go.RowKit

abbrev SMin := Unit
abbrev SDot := Unit
abbrev SZero := Unit

set_option maxHeartbeats 4000000 in
theorem cutMin_c (s : ByteArray) (m : SMin) (W : World) :
    Calls Tryz.prog 73 #[.string s, .string ⟨#[45]⟩] W fun e w' => e = .returned (.tuple #[.string (bsOf (unsg (lsOf s))), .bool (isNeg (lsOf s))]) ∧ W = w' := by
  refine (Tryz.strings_CutPrefix s _ W).mono ?_
  rintro e w' ⟨rfl, rfl⟩
  rw [← unsg_lib, ← isNeg_lib]
  exact ⟨rfl, rfl⟩

set_option maxHeartbeats 4000000 in
theorem noZ_c (s : ByteArray) (m : SZero) (hs : s.size ≤ 9223372036854775807) (W : World) :
    Calls Tryz.prog 76 #[.string s, .string ⟨#[48]⟩] W fun e w' => e = .returned (.string (bsOf (noZ (lsOf s)))) ∧ W = w' := by
  refine (Tryz.strings_TrimRight_one s 48 (by decide) W hs).mono ?_
  rintro e w' ⟨rfl, rfl⟩
  exact ⟨rfl, rfl⟩

set_option maxHeartbeats 4000000 in
theorem itoa_c (W : World) (n : Int) (h0 : -9223372036854775808 ≤ n) (h1 : n ≤ 9223372036854775807) (ht : Tab W) :
    Calls Tryz.prog 102 #[.int .i64 n] W fun e w' => e = .returned (.string (bsOf (Lib.itoa n))) ∧ More W w' := by
  refine (Any.strconv_Itoa Tryz.laysM171 n h0 h1 W ht).mono ?_
  rintro e w' ⟨rfl, k, os, rfl⟩
  exact ⟨rfl, ⟨os, W.drawn + k⟩, rfl⟩

set_option maxHeartbeats 4000000 in
theorem repeat_c (m : SZero) (c : Int) (h0 : 0 ≤ c) (h1 : c ≤ 1000) (W : World) :
    Calls Tryz.prog 103 #[.string ⟨#[48]⟩, .int .i64 c] W fun e w' => e = .returned (.string (bsOf (List.replicate c.toNat 48))) ∧ More W w' := by
  obtain ⟨k, rfl⟩ := Int.eq_ofNat_of_zero_le h0
  refine (Tryz.strings_Repeat ⟨#[48]⟩ k W (by omega) (by simp [ByteArray.size_mk']; omega)).mono ?_
  rintro e w' ⟨rfl, hb⟩
  refine ⟨?_, more_of_below hb⟩
  have e1 := Lib.repeatL_replicate 48 1 k
  have e2 : Lib.repeatL (ByteArray.mk #[48]).data.toList k = List.replicate k 48 := by
    have : (ByteArray.mk #[48]).data.toList = List.replicate 1 48 := rfl
    rw [this, e1, Nat.mul_one]
  rw [e2]
  rfl

set_option maxHeartbeats 4000000 in
theorem indexDot_c (s : ByteArray) (m : SDot) (W : World) :
    Calls Tryz.prog 106 #[.string s, .string ⟨#[46]⟩] W fun e w' => e = .returned (.int .i64 (Lib.indexByte (lsOf s) 46)) ∧ W = w' := by
  refine (Tryz.stringslite_Index_one s 46 W).mono ?_
  rintro e w' ⟨rfl, rfl⟩
  exact ⟨rfl, rfl⟩

set_option maxHeartbeats 4000000 in
theorem cutl_c (s : ByteArray) (m : SDot) (hs : s.size ≤ 9223372036854775807) (W : World) :
    Calls Tryz.prog 91 #[.string s, .string ⟨#[46]⟩] W fun e w' => e = .returned (.tuple #[.string (bsOf (dotA (lsOf s))), .string (bsOf (dotB (lsOf s))), .bool (hasDot (lsOf s))]) ∧ More W w' := by
  obtain ⟨l, rfl⟩ := str_bs s
  have hi := index_dot l
  rw [ls_bs]
  rw [size_bs] at hs
  cases h : hasDot l with
  | true =>
    rw [if_pos h] at hi
    obtain ⟨t1, t2, t3⟩ := dot_take l h
    generalize (dotA l).length = n at *
    have hz : (dotB l).take (l.length - (n + 1)) = dotB l := by rw [← t2]; exact List.take_of_length_le (by simp)
    go_enter Tryz.func91, Tryz.ntmps91
    go_wp2_with (first | (go_at_call 106; (with_reducible refine (indexDot_c _ () _).mono ?_); rintro e w' ⟨rfl, rfl⟩) | ((with_reducible show Code.wp _ (Code.region 3 _ true) _ _ _); (with_reducible refine wp_more_quick_m (id := 3) ?_ ?_ ?_); kernel_rfl; kernel_rfl; (try simp only [List.take_succ_cons, List.take_zero, List.drop_succ_cons, List.drop_zero]); (repeat (any_goals (first | go_big_quiet_step (fail) | quiet_step (fail)))); (with_reducible refine wpQuiet_nil ?_); intro r) | ((with_reducible show Code.wp _ (Code.region 3 _ true) _ _ _); (with_reducible refine wp_more_quick (id := 3) ?_ ?_ ?_); kernel_rfl; kernel_rfl; (try simp only [List.take_succ_cons, List.take_zero, List.drop_succ_cons, List.drop_zero]); (repeat (any_goals (first | go_big_quiet_step (fail) | quiet_step (fail)))); (with_reducible refine wpQuiet_nil ?_); intro r))
    go_returns
    exact ⟨rfl, (by repeat (first | exact More.refl _ | refine More.alloc ?_ _ | refine More.more ?_ _ | refine More.drew ?_ | refine More.drewN ?_ _))⟩
  | false =>
    rw [if_neg (by simp [h])] at hi
    obtain ⟨t1, t2⟩ := dot_none l h
    rw [t1, t2]
    go_enter Tryz.func91, Tryz.ntmps91
    go_wp2_with (first | (go_at_call 106; (with_reducible refine (indexDot_c _ () _).mono ?_); rintro e w' ⟨rfl, rfl⟩) | ((with_reducible show Code.wp _ (Code.region 3 _ true) _ _ _); (with_reducible refine wp_more_quick_m (id := 3) ?_ ?_ ?_); kernel_rfl; kernel_rfl; (try simp only [List.take_succ_cons, List.take_zero, List.drop_succ_cons, List.drop_zero]); (repeat (any_goals (first | go_big_quiet_step (fail) | quiet_step (fail)))); (with_reducible refine wpQuiet_nil ?_); intro r) | ((with_reducible show Code.wp _ (Code.region 3 _ true) _ _ _); (with_reducible refine wp_more_quick (id := 3) ?_ ?_ ?_); kernel_rfl; kernel_rfl; (try simp only [List.take_succ_cons, List.take_zero, List.drop_succ_cons, List.drop_zero]); (repeat (any_goals (first | go_big_quiet_step (fail) | quiet_step (fail)))); (with_reducible refine wpQuiet_nil ?_); intro r))
    go_returns
    exact ⟨rfl, (by repeat (first | exact More.refl _ | refine More.alloc ?_ _ | refine More.more ?_ _ | refine More.drew ?_ | refine More.drewN ?_ _))⟩

set_option maxHeartbeats 4000000 in
theorem cut_c (s : ByteArray) (m : SDot) (hs : s.size ≤ 9223372036854775807) (W : World) :
    Calls Tryz.prog 74 #[.string s, .string ⟨#[46]⟩] W fun e w' => e = .returned (.tuple #[.string (bsOf (dotA (lsOf s))), .string (bsOf (dotB (lsOf s))), .bool (hasDot (lsOf s))]) ∧ More W w' := by
  go_enter Tryz.func74, Tryz.ntmps74
  go_wp2_with (first | (go_at_call 91; (with_reducible refine (cutl_c _ () (by (try simp only [size_bs]); omega) _).mono ?_); rintro e w' ⟨rfl, r, rfl⟩))
  go_returns
  exact ⟨rfl, (by repeat (first | exact More.refl _ | refine More.alloc ?_ _ | refine More.more ?_ _ | refine More.drew ?_ | refine More.drewN ?_ _))⟩

end Go.Proofs.YtekhhekkepijoaaGreatDoor

