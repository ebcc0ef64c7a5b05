/-
  What the library's calls answer, in plain words: the contracts laid over this program, and two short walks of our own.
-/
import Derived.Test.YthhipepdkpoomaaDoorShelf
import Derived.Test.YthhipepdkpoomaaDoorReg3
import Derived.Test.YthhipepdkpoomaaDoorDecMath
namespace Go.Proofs.YthhipepdkpoomaaDoor
set_option linter.unusedVariables false
open Go.ChangeShapes Go.WideShapes Go.ChangeAt Go.RowKit

abbrev SMin := Unit
abbrev SDot := Unit
abbrev SZero := Unit

set_option maxHeartbeats 4000000 in
theorem cutMin_c (s : ByteArray) (m : SMin) (W : World) :
    Calls Tryd.prog 30 #[.string s, .string ⟨#[45]⟩] W fun e w' => e = .returned (.tuple #[.string (bsOf (unsg (lsOf s))), .bool (isNeg (lsOf s))]) ∧ W = w' := by
  refine (Tryd.strings_CutPrefix s _ W).mono ?_
  rintro e w' ⟨rfl, rfl⟩
  rw [← unsg_lib, ← isNeg_lib]
  exact ⟨rfl, rfl⟩

set_option maxHeartbeats 4000000 in
theorem noZ_c (s : ByteArray) (m : SZero) (hs : s.size ≤ 9223372036854775807) (W : World) :
    Calls Tryd.prog 33 #[.string s, .string ⟨#[48]⟩] W fun e w' => e = .returned (.string (bsOf (noZ (lsOf s)))) ∧ W = w' := by
  refine (Tryd.strings_TrimRight_one s 48 (by decide) W hs).mono ?_
  rintro e w' ⟨rfl, rfl⟩
  exact ⟨rfl, rfl⟩

set_option maxHeartbeats 4000000 in
theorem indexDot_c (s : ByteArray) (m : SDot) (W : World) :
    Calls Tryd.prog 44 #[.string s, .string ⟨#[46]⟩] W fun e w' => e = .returned (.int .i64 (Lib.indexByte (lsOf s) 46)) ∧ W = w' := by
  refine (Tryd.stringslite_Index_one s 46 W).mono ?_
  rintro e w' ⟨rfl, rfl⟩
  exact ⟨rfl, rfl⟩

set_option maxHeartbeats 4000000 in
theorem cutl_c (s : ByteArray) (m : SDot) (hs : s.size ≤ 9223372036854775807) (W : World) :
    Calls Tryd.prog 38 #[.string s, .string ⟨#[46]⟩] W fun e w' => e = .returned (.tuple #[.string (bsOf (dotA (lsOf s))), .string (bsOf (dotB (lsOf s))), .bool (hasDot (lsOf s))]) ∧ More W w' := by
  obtain ⟨l, rfl⟩ := str_bs s
  have hi := index_dot l
  rw [ls_bs]
  rw [size_bs] at hs
  cases h : hasDot l with
  | true =>
    rw [if_pos h] at hi
    obtain ⟨t1, t2, t3⟩ := dot_take l h
    generalize (dotA l).length = n at *
    have hz : (dotB l).take (l.length - (n + 1)) = dotB l := by rw [← t2]; exact List.take_of_length_le (by simp)
    go_enter Tryd.func38, Tryd.ntmps38
    go_wp2_with (first | (go_at_call 44; (with_reducible refine (indexDot_c _ () _).mono ?_); rintro e w' ⟨rfl, rfl⟩) | ((with_reducible show Code.wp _ (Code.region 3 _ true) _ _ _); (with_reducible refine wp_more_quick_m (id := 3) ?_ ?_ ?_); kernel_rfl; kernel_rfl; (try simp only [List.take_succ_cons, List.take_zero, List.drop_succ_cons, List.drop_zero]); (repeat (any_goals (first | go_big_quiet_step ((first | (go_at_call 44; (with_reducible apply quiet_call_same); with_reducible exact indexDot_c _ () _))) | quiet_step ((first | (go_at_call 44; (with_reducible apply quiet_call_same); with_reducible exact indexDot_c _ () _)))))); (with_reducible refine wpQuiet_nil ?_); intro r) | ((with_reducible show Code.wp _ (Code.region 3 _ true) _ _ _); (with_reducible refine wp_more_quick (id := 3) ?_ ?_ ?_); kernel_rfl; kernel_rfl; (try simp only [List.take_succ_cons, List.take_zero, List.drop_succ_cons, List.drop_zero]); (repeat (any_goals (first | go_big_quiet_step ((first | (go_at_call 44; (with_reducible apply quiet_call_same); with_reducible exact indexDot_c _ () _))) | quiet_step ((first | (go_at_call 44; (with_reducible apply quiet_call_same); with_reducible exact indexDot_c _ () _)))))); (with_reducible refine wpQuiet_nil ?_); intro r))
    go_returns
    exact ⟨rfl, (by repeat (first | exact More.refl _ | refine More.alloc ?_ _ | refine More.more ?_ _ | refine More.drew ?_ | refine More.drewN ?_ _))⟩
  | false =>
    rw [if_neg (by simp [h])] at hi
    obtain ⟨t1, t2⟩ := dot_none l h
    rw [t1, t2]
    go_enter Tryd.func38, Tryd.ntmps38
    go_wp2_with (first | (go_at_call 44; (with_reducible refine (indexDot_c _ () _).mono ?_); rintro e w' ⟨rfl, rfl⟩) | ((with_reducible show Code.wp _ (Code.region 3 _ true) _ _ _); (with_reducible refine wp_more_quick_m (id := 3) ?_ ?_ ?_); kernel_rfl; kernel_rfl; (try simp only [List.take_succ_cons, List.take_zero, List.drop_succ_cons, List.drop_zero]); (repeat (any_goals (first | go_big_quiet_step ((first | (go_at_call 44; (with_reducible apply quiet_call_same); with_reducible exact indexDot_c _ () _))) | quiet_step ((first | (go_at_call 44; (with_reducible apply quiet_call_same); with_reducible exact indexDot_c _ () _)))))); (with_reducible refine wpQuiet_nil ?_); intro r) | ((with_reducible show Code.wp _ (Code.region 3 _ true) _ _ _); (with_reducible refine wp_more_quick (id := 3) ?_ ?_ ?_); kernel_rfl; kernel_rfl; (try simp only [List.take_succ_cons, List.take_zero, List.drop_succ_cons, List.drop_zero]); (repeat (any_goals (first | go_big_quiet_step ((first | (go_at_call 44; (with_reducible apply quiet_call_same); with_reducible exact indexDot_c _ () _))) | quiet_step ((first | (go_at_call 44; (with_reducible apply quiet_call_same); with_reducible exact indexDot_c _ () _)))))); (with_reducible refine wpQuiet_nil ?_); intro r))
    go_returns
    exact ⟨rfl, (by repeat (first | exact More.refl _ | refine More.alloc ?_ _ | refine More.more ?_ _ | refine More.drew ?_ | refine More.drewN ?_ _))⟩

set_option maxHeartbeats 4000000 in
theorem cut_c (s : ByteArray) (m : SDot) (hs : s.size ≤ 9223372036854775807) (W : World) :
    Calls Tryd.prog 31 #[.string s, .string ⟨#[46]⟩] W fun e w' => e = .returned (.tuple #[.string (bsOf (dotA (lsOf s))), .string (bsOf (dotB (lsOf s))), .bool (hasDot (lsOf s))]) ∧ More W w' := by
  go_enter Tryd.func31, Tryd.ntmps31
  go_wp2_with (first | (go_at_call 38; (with_reducible refine (cutl_c _ () (by (try simp only [size_bs]); omega) _).mono ?_); rintro e w' ⟨rfl, r, rfl⟩))
  go_returns
  exact ⟨rfl, (by repeat (first | exact More.refl _ | refine More.alloc ?_ _ | refine More.more ?_ _ | refine More.drew ?_ | refine More.drewN ?_ _))⟩

end Go.Proofs.YthhipepdkpoomaaDoor

