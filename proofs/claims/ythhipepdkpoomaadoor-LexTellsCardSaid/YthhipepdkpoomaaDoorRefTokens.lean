/-
  The plain saying of words and numbers: its walk.
-/
import Derived.Test.YthhipepdkpoomaaDoorPlain
namespace Go.Proofs.YthhipepdkpoomaaDoor
set_option linter.unusedVariables false
open Go.ChangeShapes Go.WideShapes Go.ChangeAt Go.RowKit

theorem endUp_yes' {acc : List Tk} {L C : Nat} (h : unended acc = true) : endUp acc L C = acc ++ [⟨3, [], L, C⟩] := by unfold endUp; rw [if_pos h]
theorem endUp_no' {acc : List Tk} {L C : Nat} (h : unended acc = false) : endUp acc L C = acc := by unfold endUp; rw [if_neg (by rw [h]; simp)]
theorem isNm_of {l : List UInt8} {k : Nat} : isNm (l.getD k 0) = (isDz (byteAt l k) || (byteAt l k == 46)) := by
  rw [isDz_at, show (46 : Int) = ((46 : Nat) : Int) from rfl, byte_is _ _ _ (by omega)]
  rfl
theorem unended_snoc3 (acc : List Tk) (L C : Nat) : unended (acc ++ [⟨3, [], L, C⟩]) = false := by simp [unended]
theorem unended_snocK (acc : List Tk) (k : Nat) (t : List UInt8) (C : Nat × Nat) (h : (k != 3) = true) : unended (acc ++ [⟨k, t, C.1, C.2⟩]) = true := by simpa [unended] using h
/-- What holds wherever the plain scan begins a round. -/
structure PScan (l : List UInt8) (X wr : World) (base : Nat) (j L st : Nat) (any : Bool) (acc : List Tk) (v : Value) : Prop where
  own : OwnW X wr base 42 4 v acc.length (flatC tk4 acc)
  lex : (j ≤ l.length ∧ ∃ n C, l.length - j < n ∧ C + st = j + 1 ∧ lexF n (l.drop j) L C acc = lexP l ∧ any = unended acc) ∨ (j = l.length + 1 ∧ lexP l = ⟨acc, 0, 0, 0⟩)
  hst : st ≤ j
  hL : L ≤ j + 1
  hA : acc.length ≤ j
theorem plainTold {l : List UInt8} {W w' : World} {v : Value} {x : List Tk} {L C e : Nat} (hx : lexP l = ⟨x, L, C, e⟩) (hm : More W w') (hr : GRow tk4 4 w' v x) :
    ∃ v'', Ending.returned (.tuple #[v, .agg #[.int .i64 L, .int .i64 C], .int .i64 e]) = .returned (.tuple #[v'', .agg #[.int .i64 (lexP l).line, .int .i64 (lexP l).col], .int .i64 (lexP l).err]) ∧ More W w' ∧ GRow tk4 4 w' v'' (lexP l).toks := by
  rw [hx]
  exact ⟨v, rfl, hm, hr⟩

set_option maxHeartbeats 8000000 in
set_option maxRecDepth 100000 in
theorem rtokens_c (l : List UInt8) (hz : l.length ≤ 9223372036854775807) (W : World) : Calls Tryd.prog 11 #[.string (bsOf l)] W fun e w' => ∃ v', e = .returned (.tuple #[v', .agg #[.int .i64 (lexP l).line, .int .i64 (lexP l).col], .int .i64 (lexP l).err]) ∧ More W w' ∧ GRow tk4 4 w' v' (lexP l).toks := by
  by_cases hl : l.length > 4000
  · have e : lexP l = ⟨[], 0, 0, 3⟩ := by unfold lexP; rw [if_pos hl]
    go_enter Tryd.func11, Tryd.ntmps11
    go_wp2_with (first | (go_at_call 25; (with_reducible refine (rletter_c _ _).mono ?_); rintro e w' ⟨rfl, rfl⟩) | (go_at_call 26; (with_reducible refine (rinWord_c _ _).mono ?_); rintro e w' ⟨rfl, rfl⟩) | (go_at_call 27; (with_reducible refine (digit8_c _ _).mono ?_); rintro e w' ⟨rfl, rfl⟩) | (go_at_call 28; (with_reducible refine (read8_c _ (by (try simp only [size_bs]); omega) _).mono ?_); rintro e w' ⟨rfl, r, rfl⟩) | ((with_reducible show Code.wp _ (Code.region 25 _ true) _ _ _); (with_reducible refine wp_more_tailq_m (id := 25) 2 ?_ ?_ ?_); kernel_rfl; kernel_rfl; (try simp only [List.take_succ_cons, List.take_zero, List.drop_succ_cons, List.drop_zero]); (repeat (any_goals (first | go_big_quiet_step ((first | (go_at_call 25; (with_reducible apply quiet_same_b); (with_reducible exact rletter_c _ _); with_reducible assumption) | (go_at_call 25; (with_reducible apply quiet_call_same); with_reducible exact rletter_c _ _) | (go_at_call 26; (with_reducible apply quiet_same_b); (with_reducible exact rinWord_c _ _); with_reducible assumption) | (go_at_call 26; (with_reducible apply quiet_call_same); with_reducible exact rinWord_c _ _) | (go_at_call 27; (with_reducible apply quiet_same_b); (with_reducible exact digit8_c _ _); with_reducible assumption) | (go_at_call 27; (with_reducible apply quiet_call_same); with_reducible exact digit8_c _ _) | (go_at_call 28; (with_reducible apply quiet_call); with_reducible exact read8_c _ (by (try simp only [size_bs]); omega) _))) | quiet_step ((first | (go_at_call 25; (with_reducible apply quiet_same_b); (with_reducible exact rletter_c _ _); with_reducible assumption) | (go_at_call 25; (with_reducible apply quiet_call_same); with_reducible exact rletter_c _ _) | (go_at_call 26; (with_reducible apply quiet_same_b); (with_reducible exact rinWord_c _ _); with_reducible assumption) | (go_at_call 26; (with_reducible apply quiet_call_same); with_reducible exact rinWord_c _ _) | (go_at_call 27; (with_reducible apply quiet_same_b); (with_reducible exact digit8_c _ _); with_reducible assumption) | (go_at_call 27; (with_reducible apply quiet_call_same); with_reducible exact digit8_c _ _) | (go_at_call 28; (with_reducible apply quiet_call); with_reducible exact read8_c _ (by (try simp only [size_bs]); omega) _)))))); (with_reducible refine wpQuiet_nil ?_); intro r) | ((with_reducible show Code.wp _ (Code.region 25 _ true) _ _ _); (with_reducible refine wp_more_tailq (id := 25) 2 ?_ ?_ ?_); kernel_rfl; kernel_rfl; (try simp only [List.take_succ_cons, List.take_zero, List.drop_succ_cons, List.drop_zero]); (repeat (any_goals (first | go_big_quiet_step ((first | (go_at_call 25; (with_reducible apply quiet_same_b); (with_reducible exact rletter_c _ _); with_reducible assumption) | (go_at_call 25; (with_reducible apply quiet_call_same); with_reducible exact rletter_c _ _) | (go_at_call 26; (with_reducible apply quiet_same_b); (with_reducible exact rinWord_c _ _); with_reducible assumption) | (go_at_call 26; (with_reducible apply quiet_call_same); with_reducible exact rinWord_c _ _) | (go_at_call 27; (with_reducible apply quiet_same_b); (with_reducible exact digit8_c _ _); with_reducible assumption) | (go_at_call 27; (with_reducible apply quiet_call_same); with_reducible exact digit8_c _ _) | (go_at_call 28; (with_reducible apply quiet_call); with_reducible exact read8_c _ (by (try simp only [size_bs]); omega) _))) | quiet_step ((first | (go_at_call 25; (with_reducible apply quiet_same_b); (with_reducible exact rletter_c _ _); with_reducible assumption) | (go_at_call 25; (with_reducible apply quiet_call_same); with_reducible exact rletter_c _ _) | (go_at_call 26; (with_reducible apply quiet_same_b); (with_reducible exact rinWord_c _ _); with_reducible assumption) | (go_at_call 26; (with_reducible apply quiet_call_same); with_reducible exact rinWord_c _ _) | (go_at_call 27; (with_reducible apply quiet_same_b); (with_reducible exact digit8_c _ _); with_reducible assumption) | (go_at_call 27; (with_reducible apply quiet_call_same); with_reducible exact digit8_c _ _) | (go_at_call 28; (with_reducible apply quiet_call); with_reducible exact read8_c _ (by (try simp only [size_bs]); omega) _)))))); (with_reducible refine wpQuiet_nil ?_); intro r) | ((with_reducible show Code.wp _ (Code.region 36 _ true) _ _ _); (with_reducible refine wp_more_tailq_m (id := 36) 2 ?_ ?_ ?_); kernel_rfl; kernel_rfl; (try simp only [List.take_succ_cons, List.take_zero, List.drop_succ_cons, List.drop_zero]); (repeat (any_goals (first | go_big_quiet_step ((first | (go_at_call 25; (with_reducible apply quiet_same_b); (with_reducible exact rletter_c _ _); with_reducible assumption) | (go_at_call 25; (with_reducible apply quiet_call_same); with_reducible exact rletter_c _ _) | (go_at_call 26; (with_reducible apply quiet_same_b); (with_reducible exact rinWord_c _ _); with_reducible assumption) | (go_at_call 26; (with_reducible apply quiet_call_same); with_reducible exact rinWord_c _ _) | (go_at_call 27; (with_reducible apply quiet_same_b); (with_reducible exact digit8_c _ _); with_reducible assumption) | (go_at_call 27; (with_reducible apply quiet_call_same); with_reducible exact digit8_c _ _) | (go_at_call 28; (with_reducible apply quiet_call); with_reducible exact read8_c _ (by (try simp only [size_bs]); omega) _))) | quiet_step ((first | (go_at_call 25; (with_reducible apply quiet_same_b); (with_reducible exact rletter_c _ _); with_reducible assumption) | (go_at_call 25; (with_reducible apply quiet_call_same); with_reducible exact rletter_c _ _) | (go_at_call 26; (with_reducible apply quiet_same_b); (with_reducible exact rinWord_c _ _); with_reducible assumption) | (go_at_call 26; (with_reducible apply quiet_call_same); with_reducible exact rinWord_c _ _) | (go_at_call 27; (with_reducible apply quiet_same_b); (with_reducible exact digit8_c _ _); with_reducible assumption) | (go_at_call 27; (with_reducible apply quiet_call_same); with_reducible exact digit8_c _ _) | (go_at_call 28; (with_reducible apply quiet_call); with_reducible exact read8_c _ (by (try simp only [size_bs]); omega) _)))))); (with_reducible refine wpQuiet_nil ?_); intro r) | ((with_reducible show Code.wp _ (Code.region 36 _ true) _ _ _); (with_reducible refine wp_more_tailq (id := 36) 2 ?_ ?_ ?_); kernel_rfl; kernel_rfl; (try simp only [List.take_succ_cons, List.take_zero, List.drop_succ_cons, List.drop_zero]); (repeat (any_goals (first | go_big_quiet_step ((first | (go_at_call 25; (with_reducible apply quiet_same_b); (with_reducible exact rletter_c _ _); with_reducible assumption) | (go_at_call 25; (with_reducible apply quiet_call_same); with_reducible exact rletter_c _ _) | (go_at_call 26; (with_reducible apply quiet_same_b); (with_reducible exact rinWord_c _ _); with_reducible assumption) | (go_at_call 26; (with_reducible apply quiet_call_same); with_reducible exact rinWord_c _ _) | (go_at_call 27; (with_reducible apply quiet_same_b); (with_reducible exact digit8_c _ _); with_reducible assumption) | (go_at_call 27; (with_reducible apply quiet_call_same); with_reducible exact digit8_c _ _) | (go_at_call 28; (with_reducible apply quiet_call); with_reducible exact read8_c _ (by (try simp only [size_bs]); omega) _))) | quiet_step ((first | (go_at_call 25; (with_reducible apply quiet_same_b); (with_reducible exact rletter_c _ _); with_reducible assumption) | (go_at_call 25; (with_reducible apply quiet_call_same); with_reducible exact rletter_c _ _) | (go_at_call 26; (with_reducible apply quiet_same_b); (with_reducible exact rinWord_c _ _); with_reducible assumption) | (go_at_call 26; (with_reducible apply quiet_call_same); with_reducible exact rinWord_c _ _) | (go_at_call 27; (with_reducible apply quiet_same_b); (with_reducible exact digit8_c _ _); with_reducible assumption) | (go_at_call 27; (with_reducible apply quiet_call_same); with_reducible exact digit8_c _ _) | (go_at_call 28; (with_reducible apply quiet_call); with_reducible exact read8_c _ (by (try simp only [size_bs]); omega) _)))))); (with_reducible refine wpQuiet_nil ?_); intro r) | ((with_reducible show Code.wp _ (Code.region 39 _ true) _ _ _); (with_reducible refine wp_more_tailq_m (id := 39) 2 ?_ ?_ ?_); kernel_rfl; kernel_rfl; (try simp only [List.take_succ_cons, List.take_zero, List.drop_succ_cons, List.drop_zero]); (repeat (any_goals (first | go_big_quiet_step ((first | (go_at_call 25; (with_reducible apply quiet_same_b); (with_reducible exact rletter_c _ _); with_reducible assumption) | (go_at_call 25; (with_reducible apply quiet_call_same); with_reducible exact rletter_c _ _) | (go_at_call 26; (with_reducible apply quiet_same_b); (with_reducible exact rinWord_c _ _); with_reducible assumption) | (go_at_call 26; (with_reducible apply quiet_call_same); with_reducible exact rinWord_c _ _) | (go_at_call 27; (with_reducible apply quiet_same_b); (with_reducible exact digit8_c _ _); with_reducible assumption) | (go_at_call 27; (with_reducible apply quiet_call_same); with_reducible exact digit8_c _ _) | (go_at_call 28; (with_reducible apply quiet_call); with_reducible exact read8_c _ (by (try simp only [size_bs]); omega) _))) | quiet_step ((first | (go_at_call 25; (with_reducible apply quiet_same_b); (with_reducible exact rletter_c _ _); with_reducible assumption) | (go_at_call 25; (with_reducible apply quiet_call_same); with_reducible exact rletter_c _ _) | (go_at_call 26; (with_reducible apply quiet_same_b); (with_reducible exact rinWord_c _ _); with_reducible assumption) | (go_at_call 26; (with_reducible apply quiet_call_same); with_reducible exact rinWord_c _ _) | (go_at_call 27; (with_reducible apply quiet_same_b); (with_reducible exact digit8_c _ _); with_reducible assumption) | (go_at_call 27; (with_reducible apply quiet_call_same); with_reducible exact digit8_c _ _) | (go_at_call 28; (with_reducible apply quiet_call); with_reducible exact read8_c _ (by (try simp only [size_bs]); omega) _)))))); (with_reducible refine wpQuiet_nil ?_); intro r) | ((with_reducible show Code.wp _ (Code.region 39 _ true) _ _ _); (with_reducible refine wp_more_tailq (id := 39) 2 ?_ ?_ ?_); kernel_rfl; kernel_rfl; (try simp only [List.take_succ_cons, List.take_zero, List.drop_succ_cons, List.drop_zero]); (repeat (any_goals (first | go_big_quiet_step ((first | (go_at_call 25; (with_reducible apply quiet_same_b); (with_reducible exact rletter_c _ _); with_reducible assumption) | (go_at_call 25; (with_reducible apply quiet_call_same); with_reducible exact rletter_c _ _) | (go_at_call 26; (with_reducible apply quiet_same_b); (with_reducible exact rinWord_c _ _); with_reducible assumption) | (go_at_call 26; (with_reducible apply quiet_call_same); with_reducible exact rinWord_c _ _) | (go_at_call 27; (with_reducible apply quiet_same_b); (with_reducible exact digit8_c _ _); with_reducible assumption) | (go_at_call 27; (with_reducible apply quiet_call_same); with_reducible exact digit8_c _ _) | (go_at_call 28; (with_reducible apply quiet_call); with_reducible exact read8_c _ (by (try simp only [size_bs]); omega) _))) | quiet_step ((first | (go_at_call 25; (with_reducible apply quiet_same_b); (with_reducible exact rletter_c _ _); with_reducible assumption) | (go_at_call 25; (with_reducible apply quiet_call_same); with_reducible exact rletter_c _ _) | (go_at_call 26; (with_reducible apply quiet_same_b); (with_reducible exact rinWord_c _ _); with_reducible assumption) | (go_at_call 26; (with_reducible apply quiet_call_same); with_reducible exact rinWord_c _ _) | (go_at_call 27; (with_reducible apply quiet_same_b); (with_reducible exact digit8_c _ _); with_reducible assumption) | (go_at_call 27; (with_reducible apply quiet_call_same); with_reducible exact digit8_c _ _) | (go_at_call 28; (with_reducible apply quiet_call); with_reducible exact read8_c _ (by (try simp only [size_bs]); omega) _)))))); (with_reducible refine wpQuiet_nil ?_); intro r))
    go_returns
    exact plainTold e (by repeat (first | exact More.refl _ | refine More.alloc ?_ _ | refine More.more ?_ _ | refine More.drew ?_ | refine More.drewN ?_ _)) (.inl ⟨rfl, rfl⟩)
  obtain ⟨i0, hi, hz0, hz1, hz2⟩ := info_parts info_t4
  go_enter Tryd.func11, Tryd.ntmps11
  go_wp2_with (first | (go_at_call 25; (with_reducible refine (rletter_c _ _).mono ?_); rintro e w' ⟨rfl, rfl⟩) | (go_at_call 26; (with_reducible refine (rinWord_c _ _).mono ?_); rintro e w' ⟨rfl, rfl⟩) | (go_at_call 27; (with_reducible refine (digit8_c _ _).mono ?_); rintro e w' ⟨rfl, rfl⟩) | (go_at_call 28; (with_reducible refine (read8_c _ (by (try simp only [size_bs]); omega) _).mono ?_); rintro e w' ⟨rfl, r, rfl⟩) | ((with_reducible show Code.wp _ (Code.region 25 _ true) _ _ _); (with_reducible refine wp_more_tailq_m (id := 25) 2 ?_ ?_ ?_); kernel_rfl; kernel_rfl; (try simp only [List.take_succ_cons, List.take_zero, List.drop_succ_cons, List.drop_zero]); (repeat (any_goals (first | go_big_quiet_step ((first | (go_at_call 25; (with_reducible apply quiet_same_b); (with_reducible exact rletter_c _ _); with_reducible assumption) | (go_at_call 25; (with_reducible apply quiet_call_same); with_reducible exact rletter_c _ _) | (go_at_call 26; (with_reducible apply quiet_same_b); (with_reducible exact rinWord_c _ _); with_reducible assumption) | (go_at_call 26; (with_reducible apply quiet_call_same); with_reducible exact rinWord_c _ _) | (go_at_call 27; (with_reducible apply quiet_same_b); (with_reducible exact digit8_c _ _); with_reducible assumption) | (go_at_call 27; (with_reducible apply quiet_call_same); with_reducible exact digit8_c _ _) | (go_at_call 28; (with_reducible apply quiet_call); with_reducible exact read8_c _ (by (try simp only [size_bs]); omega) _))) | quiet_step ((first | (go_at_call 25; (with_reducible apply quiet_same_b); (with_reducible exact rletter_c _ _); with_reducible assumption) | (go_at_call 25; (with_reducible apply quiet_call_same); with_reducible exact rletter_c _ _) | (go_at_call 26; (with_reducible apply quiet_same_b); (with_reducible exact rinWord_c _ _); with_reducible assumption) | (go_at_call 26; (with_reducible apply quiet_call_same); with_reducible exact rinWord_c _ _) | (go_at_call 27; (with_reducible apply quiet_same_b); (with_reducible exact digit8_c _ _); with_reducible assumption) | (go_at_call 27; (with_reducible apply quiet_call_same); with_reducible exact digit8_c _ _) | (go_at_call 28; (with_reducible apply quiet_call); with_reducible exact read8_c _ (by (try simp only [size_bs]); omega) _)))))); (with_reducible refine wpQuiet_nil ?_); intro r) | ((with_reducible show Code.wp _ (Code.region 25 _ true) _ _ _); (with_reducible refine wp_more_tailq (id := 25) 2 ?_ ?_ ?_); kernel_rfl; kernel_rfl; (try simp only [List.take_succ_cons, List.take_zero, List.drop_succ_cons, List.drop_zero]); (repeat (any_goals (first | go_big_quiet_step ((first | (go_at_call 25; (with_reducible apply quiet_same_b); (with_reducible exact rletter_c _ _); with_reducible assumption) | (go_at_call 25; (with_reducible apply quiet_call_same); with_reducible exact rletter_c _ _) | (go_at_call 26; (with_reducible apply quiet_same_b); (with_reducible exact rinWord_c _ _); with_reducible assumption) | (go_at_call 26; (with_reducible apply quiet_call_same); with_reducible exact rinWord_c _ _) | (go_at_call 27; (with_reducible apply quiet_same_b); (with_reducible exact digit8_c _ _); with_reducible assumption) | (go_at_call 27; (with_reducible apply quiet_call_same); with_reducible exact digit8_c _ _) | (go_at_call 28; (with_reducible apply quiet_call); with_reducible exact read8_c _ (by (try simp only [size_bs]); omega) _))) | quiet_step ((first | (go_at_call 25; (with_reducible apply quiet_same_b); (with_reducible exact rletter_c _ _); with_reducible assumption) | (go_at_call 25; (with_reducible apply quiet_call_same); with_reducible exact rletter_c _ _) | (go_at_call 26; (with_reducible apply quiet_same_b); (with_reducible exact rinWord_c _ _); with_reducible assumption) | (go_at_call 26; (with_reducible apply quiet_call_same); with_reducible exact rinWord_c _ _) | (go_at_call 27; (with_reducible apply quiet_same_b); (with_reducible exact digit8_c _ _); with_reducible assumption) | (go_at_call 27; (with_reducible apply quiet_call_same); with_reducible exact digit8_c _ _) | (go_at_call 28; (with_reducible apply quiet_call); with_reducible exact read8_c _ (by (try simp only [size_bs]); omega) _)))))); (with_reducible refine wpQuiet_nil ?_); intro r) | ((with_reducible show Code.wp _ (Code.region 36 _ true) _ _ _); (with_reducible refine wp_more_tailq_m (id := 36) 2 ?_ ?_ ?_); kernel_rfl; kernel_rfl; (try simp only [List.take_succ_cons, List.take_zero, List.drop_succ_cons, List.drop_zero]); (repeat (any_goals (first | go_big_quiet_step ((first | (go_at_call 25; (with_reducible apply quiet_same_b); (with_reducible exact rletter_c _ _); with_reducible assumption) | (go_at_call 25; (with_reducible apply quiet_call_same); with_reducible exact rletter_c _ _) | (go_at_call 26; (with_reducible apply quiet_same_b); (with_reducible exact rinWord_c _ _); with_reducible assumption) | (go_at_call 26; (with_reducible apply quiet_call_same); with_reducible exact rinWord_c _ _) | (go_at_call 27; (with_reducible apply quiet_same_b); (with_reducible exact digit8_c _ _); with_reducible assumption) | (go_at_call 27; (with_reducible apply quiet_call_same); with_reducible exact digit8_c _ _) | (go_at_call 28; (with_reducible apply quiet_call); with_reducible exact read8_c _ (by (try simp only [size_bs]); omega) _))) | quiet_step ((first | (go_at_call 25; (with_reducible apply quiet_same_b); (with_reducible exact rletter_c _ _); with_reducible assumption) | (go_at_call 25; (with_reducible apply quiet_call_same); with_reducible exact rletter_c _ _) | (go_at_call 26; (with_reducible apply quiet_same_b); (with_reducible exact rinWord_c _ _); with_reducible assumption) | (go_at_call 26; (with_reducible apply quiet_call_same); with_reducible exact rinWord_c _ _) | (go_at_call 27; (with_reducible apply quiet_same_b); (with_reducible exact digit8_c _ _); with_reducible assumption) | (go_at_call 27; (with_reducible apply quiet_call_same); with_reducible exact digit8_c _ _) | (go_at_call 28; (with_reducible apply quiet_call); with_reducible exact read8_c _ (by (try simp only [size_bs]); omega) _)))))); (with_reducible refine wpQuiet_nil ?_); intro r) | ((with_reducible show Code.wp _ (Code.region 36 _ true) _ _ _); (with_reducible refine wp_more_tailq (id := 36) 2 ?_ ?_ ?_); kernel_rfl; kernel_rfl; (try simp only [List.take_succ_cons, List.take_zero, List.drop_succ_cons, List.drop_zero]); (repeat (any_goals (first | go_big_quiet_step ((first | (go_at_call 25; (with_reducible apply quiet_same_b); (with_reducible exact rletter_c _ _); with_reducible assumption) | (go_at_call 25; (with_reducible apply quiet_call_same); with_reducible exact rletter_c _ _) | (go_at_call 26; (with_reducible apply quiet_same_b); (with_reducible exact rinWord_c _ _); with_reducible assumption) | (go_at_call 26; (with_reducible apply quiet_call_same); with_reducible exact rinWord_c _ _) | (go_at_call 27; (with_reducible apply quiet_same_b); (with_reducible exact digit8_c _ _); with_reducible assumption) | (go_at_call 27; (with_reducible apply quiet_call_same); with_reducible exact digit8_c _ _) | (go_at_call 28; (with_reducible apply quiet_call); with_reducible exact read8_c _ (by (try simp only [size_bs]); omega) _))) | quiet_step ((first | (go_at_call 25; (with_reducible apply quiet_same_b); (with_reducible exact rletter_c _ _); with_reducible assumption) | (go_at_call 25; (with_reducible apply quiet_call_same); with_reducible exact rletter_c _ _) | (go_at_call 26; (with_reducible apply quiet_same_b); (with_reducible exact rinWord_c _ _); with_reducible assumption) | (go_at_call 26; (with_reducible apply quiet_call_same); with_reducible exact rinWord_c _ _) | (go_at_call 27; (with_reducible apply quiet_same_b); (with_reducible exact digit8_c _ _); with_reducible assumption) | (go_at_call 27; (with_reducible apply quiet_call_same); with_reducible exact digit8_c _ _) | (go_at_call 28; (with_reducible apply quiet_call); with_reducible exact read8_c _ (by (try simp only [size_bs]); omega) _)))))); (with_reducible refine wpQuiet_nil ?_); intro r) | ((with_reducible show Code.wp _ (Code.region 39 _ true) _ _ _); (with_reducible refine wp_more_tailq_m (id := 39) 2 ?_ ?_ ?_); kernel_rfl; kernel_rfl; (try simp only [List.take_succ_cons, List.take_zero, List.drop_succ_cons, List.drop_zero]); (repeat (any_goals (first | go_big_quiet_step ((first | (go_at_call 25; (with_reducible apply quiet_same_b); (with_reducible exact rletter_c _ _); with_reducible assumption) | (go_at_call 25; (with_reducible apply quiet_call_same); with_reducible exact rletter_c _ _) | (go_at_call 26; (with_reducible apply quiet_same_b); (with_reducible exact rinWord_c _ _); with_reducible assumption) | (go_at_call 26; (with_reducible apply quiet_call_same); with_reducible exact rinWord_c _ _) | (go_at_call 27; (with_reducible apply quiet_same_b); (with_reducible exact digit8_c _ _); with_reducible assumption) | (go_at_call 27; (with_reducible apply quiet_call_same); with_reducible exact digit8_c _ _) | (go_at_call 28; (with_reducible apply quiet_call); with_reducible exact read8_c _ (by (try simp only [size_bs]); omega) _))) | quiet_step ((first | (go_at_call 25; (with_reducible apply quiet_same_b); (with_reducible exact rletter_c _ _); with_reducible assumption) | (go_at_call 25; (with_reducible apply quiet_call_same); with_reducible exact rletter_c _ _) | (go_at_call 26; (with_reducible apply quiet_same_b); (with_reducible exact rinWord_c _ _); with_reducible assumption) | (go_at_call 26; (with_reducible apply quiet_call_same); with_reducible exact rinWord_c _ _) | (go_at_call 27; (with_reducible apply quiet_same_b); (with_reducible exact digit8_c _ _); with_reducible assumption) | (go_at_call 27; (with_reducible apply quiet_call_same); with_reducible exact digit8_c _ _) | (go_at_call 28; (with_reducible apply quiet_call); with_reducible exact read8_c _ (by (try simp only [size_bs]); omega) _)))))); (with_reducible refine wpQuiet_nil ?_); intro r) | ((with_reducible show Code.wp _ (Code.region 39 _ true) _ _ _); (with_reducible refine wp_more_tailq (id := 39) 2 ?_ ?_ ?_); kernel_rfl; kernel_rfl; (try simp only [List.take_succ_cons, List.take_zero, List.drop_succ_cons, List.drop_zero]); (repeat (any_goals (first | go_big_quiet_step ((first | (go_at_call 25; (with_reducible apply quiet_same_b); (with_reducible exact rletter_c _ _); with_reducible assumption) | (go_at_call 25; (with_reducible apply quiet_call_same); with_reducible exact rletter_c _ _) | (go_at_call 26; (with_reducible apply quiet_same_b); (with_reducible exact rinWord_c _ _); with_reducible assumption) | (go_at_call 26; (with_reducible apply quiet_call_same); with_reducible exact rinWord_c _ _) | (go_at_call 27; (with_reducible apply quiet_same_b); (with_reducible exact digit8_c _ _); with_reducible assumption) | (go_at_call 27; (with_reducible apply quiet_call_same); with_reducible exact digit8_c _ _) | (go_at_call 28; (with_reducible apply quiet_call); with_reducible exact read8_c _ (by (try simp only [size_bs]); omega) _))) | quiet_step ((first | (go_at_call 25; (with_reducible apply quiet_same_b); (with_reducible exact rletter_c _ _); with_reducible assumption) | (go_at_call 25; (with_reducible apply quiet_call_same); with_reducible exact rletter_c _ _) | (go_at_call 26; (with_reducible apply quiet_same_b); (with_reducible exact rinWord_c _ _); with_reducible assumption) | (go_at_call 26; (with_reducible apply quiet_call_same); with_reducible exact rinWord_c _ _) | (go_at_call 27; (with_reducible apply quiet_same_b); (with_reducible exact digit8_c _ _); with_reducible assumption) | (go_at_call 27; (with_reducible apply quiet_call_same); with_reducible exact digit8_c _ _) | (go_at_call 28; (with_reducible apply quiet_call); with_reducible exact read8_c _ (by (try simp only [size_bs]); omega) _)))))); (with_reducible refine wpQuiet_nil ?_); intro r))
  go_loopw [5, 6, 7, 8, 9] (fun v xL xs xa xi wr => ∃ (j L st : Nat) (any : Bool) (acc : List Tk) (s : Rest), xL = .int .i64 L ∧ xs = .int .i64 st ∧ xa = .bool any ∧ xi = .int .i64 j ∧ wr = more (W.alloc (.cells #[.int .i64 0, .int .i64 0] 37)) s ∧ PScan l (W.alloc (.cells #[.int .i64 0, .int .i64 0] 37)) wr (W.heap.size + 1) j L st any acc v) (fun _ _ _ _ xi _ => l.length + 1 - (intOf xi).toNat)
  case atStart => exact ⟨0, 1, 0, false, [], ⟨#[], _⟩, rfl, rfl, rfl, rfl, (more_self _).symm, ⟨⟨⟨#[], _⟩, (more_self _).symm, OwnS.nil _ _ _ _⟩, .inl ⟨by omega, l.length + 1, 1, by omega, rfl, by unfold lexP; rw [if_neg hl]; rfl, rfl⟩, by omega, by omega, by simp⟩⟩
  case round =>
    obtain ⟨j, L, st, any, acc, s, rfl, rfl, rfl, rfl, rfl, hS⟩ := hrel
    obtain ⟨hO, hx, hst, hL, hA⟩ := hS
    have HO := Lib.hid hO
    clear hO
    rcases hx with ⟨hjl, n, C, hn, hC, hx, rfl⟩ | ⟨rfl, hx⟩
    · obtain ⟨n, rfl⟩ : ∃ m, n = m + 1 := ⟨n - 1, by omega⟩
      have hCz : (j : Int) - (st : Int) + 1 = (C : Int) := by omega
      have HC := Lib.hid hC
      clear hC
      have hC4 : C ≤ 4001 := by have := HC.out; omega
      have HN := Lib.hid hn
      clear hn
      by_cases hje : j = l.length
      · subst hje
        rw [List.drop_length, lexF_nil] at hx
        cases hu : unended acc with
        | false =>
          rw [endUp_no' hu] at hx
          have HX := Lib.hid hx
          clear hx
          go_wp2_with fail
          go_roundw
          case rel =>
            have hC := HC.out
            have hn := HN.out
            exact ⟨l.length + 1, L + 1, l.length + 1, false, acc, _, (by first | rfl | exact int_is (by omega)), (by first | rfl | exact int_is (by omega)), rfl, (by first | rfl | exact int_is (by omega)), (by first | rfl | exact alloc_rest' _ _ _ | (simp only [alloc_rest', more_more]; rfl) | simp only [alloc_rest', more_more]), ⟨(by repeat (first | exact HO.out | with_reducible apply OwnW.alloc | with_reducible apply OwnW.more | with_reducible apply OwnW.drew)), .inr ⟨rfl, HX.out.symm⟩, by omega, by omega, by first | omega | (simp only [List.length_append, List.length_singleton]; omega)⟩⟩
          case measure => simp [intOf] <;> omega
        | true =>
          rw [endUp_yes' hu] at hx
          have HX := Lib.hid hx
          clear hx
          go_wp2_with (first | (at_builtin; refine wpList_append_w (W2 := (W.alloc (.cells #[.int .i64 0, .int .i64 0] 37))) rfl (.tmp 41) (.tmp 44) 35 rfl 42 i0 _ 4 40 und_t4 hi hz0 hz1 hz2 rfl (by decide) _ acc.length (flatC tk4 acc) (W.heap.size + 1) (by simp) rfl (by repeat (first | exact HO.out | with_reducible apply OwnW.alloc | with_reducible apply OwnW.more | with_reducible apply OwnW.drew)) (tk4 ⟨3, [], L, C⟩) 1 _ rfl (by simp; try omega) rfl (tk4_one _) (by simp only [maxLen]; omega) (by omega) ?_; intro v2 w2 hown2; obtain ⟨s2, hw2, hs2⟩ := (OwnW.snoc hown2); clear hown2; subst hw2; have HO2 := Lib.hid (show OwnW (W.alloc (.cells #[.int .i64 0, .int .i64 0] 37)) (more (W.alloc (.cells #[.int .i64 0, .int .i64 0] 37)) s2) _ _ _ _ _ _ from ⟨s2, rfl, hs2⟩); clear hs2))
          go_roundw
          case rel =>
            have hC := HC.out
            have hn := HN.out
            exact ⟨l.length + 1, L + 1, l.length + 1, false, (acc ++ [⟨3, [], L, C⟩]), _, (by first | rfl | exact int_is (by omega)), (by first | rfl | exact int_is (by omega)), rfl, (by first | rfl | exact int_is (by omega)), (by first | rfl | exact alloc_rest' _ _ _ | (simp only [alloc_rest', more_more]; rfl) | simp only [alloc_rest', more_more]), ⟨(by repeat (first | exact HO2.out | with_reducible apply OwnW.alloc | with_reducible apply OwnW.more | with_reducible apply OwnW.drew)), .inr ⟨rfl, HX.out.symm⟩, by omega, by omega, by first | omega | (simp only [List.length_append, List.length_singleton]; omega)⟩⟩
          case measure => simp [intOf] <;> omega
      have hjlt : j < l.length := by omega
      have hjne : ((j : Int) == (l.length : Int)) = false := by simp; omega
      have hb := byteAt_bd l j
      have b10 := byte_is l j 10 (by omega)
      have b32 := byte_is l j 32 (by omega)
      have b9 := byte_is l j 9 (by omega)
      have b35 := byte_is l j 35 (by omega)
      have bL := isLz_at l j
      rw [drop_at hjlt] at hx
      have htc : ∀ k, j < k → (l.drop j).take (k - j) = l.getD j 0 :: (l.drop (j + 1)).take (k - (j + 1)) := fun k hk => take_cons hjlt hk
      have HT := Lib.hid htc
      clear htc
      have hbe : ∃ b, l.getD j 0 = b := ⟨_, rfl⟩
      have bZ := byte_is l j 45 (by omega)
      have bD := isDz_at l j
      obtain ⟨b, hbe⟩ := hbe
      rw [hbe] at hx b10 b32 b9 b35 bL bZ bD
      replace HT := Lib.hid (show ∀ k, j < k → (l.drop j).take (k - j) = b :: (l.drop (j + 1)).take (k - (j + 1)) from fun k hk => by rw [HT.out k hk, hbe])
      have HB := Lib.hid hbe
      clear hbe
      simp only [show ((10 : Nat) : Int) = 10 from rfl, show ((32 : Nat) : Int) = 32 from rfl, show ((9 : Nat) : Int) = 9 from rfl, show ((35 : Nat) : Int) = 35 from rfl, show ((45 : Nat) : Int) = 45 from rfl] at b10 b32 b9 b35 bZ
      by_cases c10 : b = 10
      · subst c10
        clear b32 b9 b35 bL bZ bD
        replace b10 : (byteAt l j == 10) = true := b10
        rw [lexF_line] at hx
        cases hu : unended acc with
        | false =>
          rw [endUp_no' hu] at hx
          have HX := Lib.hid hx
          clear hx
          go_wp2_with fail
          go_roundw
          case rel =>
            have hC := HC.out
            have hn := HN.out
            exact ⟨j + 1, L + 1, j + 1, false, acc, _, (by first | rfl | exact int_is (by omega)), (by first | rfl | exact int_is (by omega)), rfl, (by first | rfl | exact int_is (by omega)), (by first | rfl | exact alloc_rest' _ _ _ | (simp only [alloc_rest', more_more]; rfl) | simp only [alloc_rest', more_more]), ⟨(by repeat (first | exact HO.out | with_reducible apply OwnW.alloc | with_reducible apply OwnW.more | with_reducible apply OwnW.drew)), .inl ⟨by omega, n, 1, by omega, by omega, HX.out, by first | exact hu.symm | exact (unended_snoc3 _ _ _).symm⟩, by omega, by omega, by first | omega | (simp only [List.length_append, List.length_singleton]; omega)⟩⟩
          case measure => simp [intOf] <;> omega
        | true =>
          rw [endUp_yes' hu] at hx
          have HX := Lib.hid hx
          clear hx
          go_wp2_with (first | (at_builtin; refine wpList_append_w (W2 := (W.alloc (.cells #[.int .i64 0, .int .i64 0] 37))) rfl (.tmp 41) (.tmp 44) 35 rfl 42 i0 _ 4 40 und_t4 hi hz0 hz1 hz2 rfl (by decide) _ acc.length (flatC tk4 acc) (W.heap.size + 1) (by simp) rfl (by repeat (first | exact HO.out | with_reducible apply OwnW.alloc | with_reducible apply OwnW.more | with_reducible apply OwnW.drew)) (tk4 ⟨3, [], L, C⟩) 1 _ rfl (by simp; try omega) rfl (tk4_one _) (by simp only [maxLen]; omega) (by omega) ?_; intro v2 w2 hown2; obtain ⟨s2, hw2, hs2⟩ := (OwnW.snoc hown2); clear hown2; subst hw2; have HO2 := Lib.hid (show OwnW (W.alloc (.cells #[.int .i64 0, .int .i64 0] 37)) (more (W.alloc (.cells #[.int .i64 0, .int .i64 0] 37)) s2) _ _ _ _ _ _ from ⟨s2, rfl, hs2⟩); clear hs2))
          go_roundw
          case rel =>
            have hC := HC.out
            have hn := HN.out
            exact ⟨j + 1, L + 1, j + 1, false, (acc ++ [⟨3, [], L, C⟩]), _, (by first | rfl | exact int_is (by omega)), (by first | rfl | exact int_is (by omega)), rfl, (by first | rfl | exact int_is (by omega)), (by first | rfl | exact alloc_rest' _ _ _ | (simp only [alloc_rest', more_more]; rfl) | simp only [alloc_rest', more_more]), ⟨(by repeat (first | exact HO2.out | with_reducible apply OwnW.alloc | with_reducible apply OwnW.more | with_reducible apply OwnW.drew)), .inl ⟨by omega, n, 1, by omega, by omega, HX.out, by first | exact hu.symm | exact (unended_snoc3 _ _ _).symm⟩, by omega, by omega, by first | omega | (simp only [List.length_append, List.length_singleton]; omega)⟩⟩
          case measure => simp [intOf] <;> omega
      replace b10 : (byteAt l j == 10) = false := by rw [b10]; simpa using c10
      by_cases c32 : b = 32
      · subst c32
        clear b9 b35 bL bZ bD
        replace b32 : (byteAt l j == 32) = true := b32
        rw [lexF_blank rfl] at hx
        have HX := Lib.hid hx
        clear hx
        go_wp2_with fail
        go_roundw
        case rel =>
          have hC := HC.out
          have hn := HN.out
          exact ⟨j + 1, L, st, unended acc, acc, _, (by first | rfl | exact int_is (by omega)), (by first | rfl | exact int_is (by omega)), rfl, (by first | rfl | exact int_is (by omega)), (by first | rfl | exact alloc_rest' _ _ _ | (simp only [alloc_rest', more_more]; rfl) | simp only [alloc_rest', more_more]), ⟨(by repeat (first | exact HO.out | with_reducible apply OwnW.alloc | with_reducible apply OwnW.more | with_reducible apply OwnW.drew)), .inl ⟨by omega, n + 1, C + 1, by omega, by omega, HX.out, rfl⟩, by omega, by omega, by first | omega | (simp only [List.length_append, List.length_singleton]; omega)⟩⟩
        case measure => simp [intOf] <;> omega
      replace b32 : (byteAt l j == 32) = false := by rw [b32]; simpa using c32
      by_cases c9 : b = 9
      · subst c9
        clear b35 bL bZ bD
        replace b9 : (byteAt l j == 9) = true := b9
        rw [lexF_blank rfl] at hx
        have HX := Lib.hid hx
        clear hx
        go_wp2_with fail
        go_roundw
        case rel =>
          have hC := HC.out
          have hn := HN.out
          exact ⟨j + 1, L, st, unended acc, acc, _, (by first | rfl | exact int_is (by omega)), (by first | rfl | exact int_is (by omega)), rfl, (by first | rfl | exact int_is (by omega)), (by first | rfl | exact alloc_rest' _ _ _ | (simp only [alloc_rest', more_more]; rfl) | simp only [alloc_rest', more_more]), ⟨(by repeat (first | exact HO.out | with_reducible apply OwnW.alloc | with_reducible apply OwnW.more | with_reducible apply OwnW.drew)), .inl ⟨by omega, n + 1, C + 1, by omega, by omega, HX.out, rfl⟩, by omega, by omega, by first | omega | (simp only [List.length_append, List.length_singleton]; omega)⟩⟩
        case measure => simp [intOf] <;> omega
      replace b9 : (byteAt l j == 9) = false := by rw [b9]; simpa using c9
      have hcb : isBl b = false := by simp [isBl, c32, c9]
      by_cases c35 : b = 35
      · subst c35
        clear bL bZ bD
        replace b35 : (byteAt l j == 35) = true := b35
        rw [lexF_remark] at hx
        have HX := Lib.hid hx
        clear hx
        go_wp2_with fail
        go_loop [9] (fun i => ∃ k : Nat, j ≤ k ∧ k ≤ l.length ∧ i = .int .i64 k ∧ ((l.drop j).take (k - j)).all isRm = true) (fun i => l.length - (intOf i).toNat)
        case atStart => exact ⟨j, by omega, by omega, rfl, by simp⟩
        case round =>
          obtain ⟨k, hjk, hkl, rfl, ha⟩ := hrel
          have HA := Lib.hid ha
          clear ha
          have hout : (k = l.length ∨ k < l.length ∧ isRm (l.getD k 0) = false) → j < k ∧ lexF (n + 1) (l.drop k) L (C + (k - j)) acc = lexP l := by
            intro h
            obtain ⟨e1, e2, e3⟩ := scan_stop hjk HA.out h
            have hlt : j < k := by
              rcases Nat.lt_or_ge j k with g | g
              · exact g
              · exfalso
                obtain rfl : j = k := by omega
                rcases h with h | ⟨_, h⟩
                · omega
                · rw [HB.out] at h; exact absurd h (by decide)
            refine ⟨hlt, ?_⟩
            have := HX.out
            rw [← HB.out, ← drop_at hjlt, e1, e2, e3] at this
            exact this
          have HOut := Lib.hid hout
          clear hout
          by_cases hkl2 : k < l.length
          · have hkb := byteAt_bd l k
            have k10 : (byteAt l k != 10) = isRm (l.getD k 0) := by
              have := byte_is l k 10 (by omega)
              rw [show ((10 : Nat) : Int) = 10 from rfl] at this
              unfold isRm
              rw [bne, this]
              rfl
            cases hp : isRm (l.getD k 0) with
            | false =>
              rw [hp] at k10
              obtain ⟨hlt, hx⟩ := HOut.out (.inr ⟨hkl2, hp⟩)
              clear hp
              have HX2 := Lib.hid hx
              clear hx
              go_wp2_with fail
              go_roundw
              case rel =>
                have hC := HC.out
                have hn := HN.out
                exact ⟨k, L, st, unended acc, acc, _, (by first | rfl | exact int_is (by omega)), (by first | rfl | exact int_is (by omega)), rfl, (by first | rfl | exact int_is (by omega)), (by first | rfl | exact alloc_rest' _ _ _ | (simp only [alloc_rest', more_more]; rfl) | simp only [alloc_rest', more_more]), ⟨(by repeat (first | exact HO.out | with_reducible apply OwnW.alloc | with_reducible apply OwnW.more | with_reducible apply OwnW.drew)), .inl ⟨by omega, n + 1, C + (k - j), by omega, by omega, HX2.out, rfl⟩, by omega, by omega, by first | omega | (simp only [List.length_append, List.length_singleton]; omega)⟩⟩
              case measure => simp [intOf] <;> omega
            | true =>
              rw [hp] at k10
              have HM := Lib.hid (scan_more hjk HA.out hkl2 hp)
              clear hp
              go_wp2_with fail
              exact ⟨⟨k + 1, by omega, by omega, rfl, HM.out⟩, by simp [intOf]; omega⟩
          · obtain rfl : k = l.length := by omega
            obtain ⟨hlt, hx⟩ := HOut.out (.inl rfl)
            have HX2 := Lib.hid hx
            clear hx
            go_wp2_with fail
            go_roundw
            case rel =>
              have hC := HC.out
              have hn := HN.out
              exact ⟨l.length, L, st, unended acc, acc, _, (by first | rfl | exact int_is (by omega)), (by first | rfl | exact int_is (by omega)), rfl, (by first | rfl | exact int_is (by omega)), (by first | rfl | exact alloc_rest' _ _ _ | (simp only [alloc_rest', more_more]; rfl) | simp only [alloc_rest', more_more]), ⟨(by repeat (first | exact HO.out | with_reducible apply OwnW.alloc | with_reducible apply OwnW.more | with_reducible apply OwnW.drew)), .inl ⟨by omega, n + 1, C + (l.length - j), by omega, by omega, HX2.out, rfl⟩, by omega, by omega, by first | omega | (simp only [List.length_append, List.length_singleton]; omega)⟩⟩
            case measure => simp [intOf] <;> omega
      replace b35 : (byteAt l j == 35) = false := by rw [b35]; simpa using c35
      cases hc : isLet b with
      | true =>
        rw [hc] at bL
        clear bZ bD
        rw [lexF_word hc, (word_drop hc).1, (word_drop hc).2] at hx
        have HX := Lib.hid hx
        clear hx
        go_wp2_with (first | (first | (go_at_call 25; (with_reducible refine (rletter_c _ _).mono ?_); rintro e w' ⟨rfl, rfl⟩) | (go_at_call 27; (with_reducible refine (digit8_c _ _).mono ?_); rintro e w' ⟨rfl, rfl⟩)))
        go_loop [12] (fun i => ∃ k : Nat, j + 1 ≤ k ∧ k ≤ l.length ∧ i = .int .i64 k ∧ ((l.drop (j + 1)).take (k - (j + 1))).all isW = true) (fun i => l.length - (intOf i).toNat)
        case atStart => exact ⟨j + 1, by omega, by omega, (by first | rfl | exact int_is (by omega)), by simp⟩
        case round =>
          obtain ⟨k, hjk, hkl, rfl, ha⟩ := hrel
          have HA := Lib.hid ha
          clear ha
          by_cases hkl2 : k < l.length
          · have hkb := byteAt_bd l k
            have hp1 := isWz_at l k
            cases hp : isW (l.getD k 0) with
            | false =>
              rw [hp] at hp1
              have HF : (l.drop (j + 1)).takeWhile isW = (l.drop (j + 1)).take (k - (j + 1)) ∧ (l.drop (j + 1)).dropWhile isW = l.drop k ∧ (l.drop j).take (k - j) = b :: (l.drop (j + 1)).take (k - (j + 1)) ∧ ((l.drop (j + 1)).take (k - (j + 1))).length = k - (j + 1) := by
                obtain ⟨e1, e2, e3⟩ := scan_stop hjk HA.out (.inr ⟨hkl2, hp⟩)
                exact ⟨e1, e2, HT.out _ (by omega), e3⟩
              clear hp
              obtain ⟨e1, e2, e3, e4⟩ := HF
              obtain ⟨t, ht⟩ : ∃ t, (l.drop (j + 1)).take (k - (j + 1)) = t := ⟨_, rfl⟩
              rw [ht] at e1 e3 e4
              have hsl := fun w => slice_bs (P := Tryd.prog) (l := l) (j := j) (k := k) 9 (by kernel_rfl) (by omega) (by omega) w
              rw [e3] at hsl
              have hx := HX.out
              rw [e1, e2] at hx
              clear e1 e2 ht
              have hbt : (b :: t).length = k - j := by rw [List.length_cons]; omega
              by_cases h20 : (b :: t).length > 20
              · rw [if_pos h20] at hx
                have HX2 := Lib.hid hx
                clear hx
                go_wp2_with (first | (first | (go_at_call 26; (with_reducible refine (rinWord_c _ _).mono ?_); rintro e w' ⟨rfl, rfl⟩) | ((with_reducible show Code.wp _ (Code.region 36 _ true) _ _ _); (with_reducible refine wp_more_tailq_m (id := 36) 2 ?_ ?_ ?_); kernel_rfl; kernel_rfl; (try simp only [List.take_succ_cons, List.take_zero, List.drop_succ_cons, List.drop_zero]); (repeat (any_goals (first | go_big_quiet_step ((first | (go_at_call 26; (with_reducible apply quiet_same_b); (with_reducible exact rinWord_c _ _); with_reducible assumption) | (go_at_call 26; (with_reducible apply quiet_call_same); with_reducible exact rinWord_c _ _))) | quiet_step ((first | (go_at_call 26; (with_reducible apply quiet_same_b); (with_reducible exact rinWord_c _ _); with_reducible assumption) | (go_at_call 26; (with_reducible apply quiet_call_same); with_reducible exact rinWord_c _ _)))))); (with_reducible refine wpQuiet_nil ?_); intro r) | ((with_reducible show Code.wp _ (Code.region 36 _ true) _ _ _); (with_reducible refine wp_more_tailq (id := 36) 2 ?_ ?_ ?_); kernel_rfl; kernel_rfl; (try simp only [List.take_succ_cons, List.take_zero, List.drop_succ_cons, List.drop_zero]); (repeat (any_goals (first | go_big_quiet_step ((first | (go_at_call 26; (with_reducible apply quiet_same_b); (with_reducible exact rinWord_c _ _); with_reducible assumption) | (go_at_call 26; (with_reducible apply quiet_call_same); with_reducible exact rinWord_c _ _))) | quiet_step ((first | (go_at_call 26; (with_reducible apply quiet_same_b); (with_reducible exact rinWord_c _ _); with_reducible assumption) | (go_at_call 26; (with_reducible apply quiet_call_same); with_reducible exact rinWord_c _ _)))))); (with_reducible refine wpQuiet_nil ?_); intro r)))
                go_returns
                exact plainTold HX2.out.symm (by repeat (first | exact More.refl _ | refine More.alloc ?_ _ | refine More.more ?_ _ | refine More.drew ?_ | refine More.drewN ?_ _)) (.inl ⟨rfl, rfl⟩)
              rw [if_neg h20] at hx
              have HX2 := Lib.hid hx
              clear hx
              skip
              go_wp2_with (first | (at_builtin; refine wpList_append_w (W2 := (W.alloc (.cells #[.int .i64 0, .int .i64 0] 37))) rfl (.tmp 152) (.tmp 154) 35 rfl 42 i0 _ 4 40 und_t4 hi hz0 hz1 hz2 rfl (by decide) _ acc.length (flatC tk4 acc) (W.heap.size + 1) (by simp) rfl (by repeat (first | exact HO.out | with_reducible apply OwnW.alloc | with_reducible apply OwnW.more | with_reducible apply OwnW.drew)) (tk4 ⟨1, b :: t, L, C⟩) 1 _ rfl (by simp; try omega) rfl (tk4_one _) (by simp only [maxLen]; omega) (by omega) ?_; intro v2 w2 hown2; obtain ⟨s2, hw2, hs2⟩ := (OwnW.snoc hown2); clear hown2; subst hw2; have HO2 := Lib.hid (show OwnW (W.alloc (.cells #[.int .i64 0, .int .i64 0] 37)) (more (W.alloc (.cells #[.int .i64 0, .int .i64 0] 37)) s2) _ _ _ _ _ _ from ⟨s2, rfl, hs2⟩); clear hs2) | (first | (go_at_call 26; (with_reducible refine (rinWord_c _ _).mono ?_); rintro e w' ⟨rfl, rfl⟩) | (go_at_call 28; (with_reducible refine (read8_c _ (by (try simp only [size_bs]); omega) _).mono ?_); rintro e w' ⟨rfl, r, rfl⟩)))
              go_roundw
              case rel =>
                have hC := HC.out
                have hn := HN.out
                exact ⟨k, L, st, true, (acc ++ [⟨1, b :: t, L, C⟩]), _, (by first | rfl | exact int_is (by omega)), (by first | rfl | exact int_is (by omega)), rfl, (by first | rfl | exact int_is (by omega)), (by first | rfl | exact alloc_rest' _ _ _ | (simp only [alloc_rest', more_more]; rfl) | simp only [alloc_rest', more_more]), ⟨(by repeat (first | exact HO2.out | with_reducible apply OwnW.alloc | with_reducible apply OwnW.more | with_reducible apply OwnW.drew)), .inl ⟨by omega, n, C + (b :: t).length, by omega, by have := e4; first | omega | (simp only [List.length_cons]; omega), HX2.out, by exact (unended_snocK acc _ _ (L, C) (by decide)).symm⟩, by omega, by omega, by first | omega | (simp only [List.length_append, List.length_singleton]; omega)⟩⟩
              case measure => simp [intOf] <;> omega
            | true =>
              rw [hp] at hp1
              have HM := Lib.hid (scan_more hjk HA.out hkl2 hp)
              clear hp
              go_wp2_with (first | (first | (go_at_call 26; (with_reducible refine (rinWord_c _ _).mono ?_); rintro e w' ⟨rfl, rfl⟩)))
              exact ⟨⟨k + 1, by omega, by omega, rfl, HM.out⟩, by simp [intOf]; omega⟩
          · obtain rfl : k = l.length := by omega
            have HF : (l.drop (j + 1)).takeWhile isW = (l.drop (j + 1)).take (l.length - (j + 1)) ∧ (l.drop (j + 1)).dropWhile isW = l.drop l.length ∧ (l.drop j).take (l.length - j) = b :: (l.drop (j + 1)).take (l.length - (j + 1)) ∧ ((l.drop (j + 1)).take (l.length - (j + 1))).length = l.length - (j + 1) := by
              obtain ⟨e1, e2, e3⟩ := scan_stop hjk HA.out (.inl rfl)
              exact ⟨e1, e2, HT.out _ (by omega), e3⟩
            obtain ⟨e1, e2, e3, e4⟩ := HF
            obtain ⟨t, ht⟩ : ∃ t, (l.drop (j + 1)).take (l.length - (j + 1)) = t := ⟨_, rfl⟩
            rw [ht] at e1 e3 e4
            have hsl := fun w => slice_bs (P := Tryd.prog) (l := l) (j := j) (k := l.length) 9 (by kernel_rfl) (by omega) (by omega) w
            rw [e3] at hsl
            have hx := HX.out
            rw [e1, e2] at hx
            clear e1 e2 ht
            have hbt : (b :: t).length = l.length - j := by rw [List.length_cons]; omega
            by_cases h20 : (b :: t).length > 20
            · rw [if_pos h20] at hx
              have HX2 := Lib.hid hx
              clear hx
              go_wp2_with (first | (first | (go_at_call 26; (with_reducible refine (rinWord_c _ _).mono ?_); rintro e w' ⟨rfl, rfl⟩) | ((with_reducible show Code.wp _ (Code.region 36 _ true) _ _ _); (with_reducible refine wp_more_tailq_m (id := 36) 2 ?_ ?_ ?_); kernel_rfl; kernel_rfl; (try simp only [List.take_succ_cons, List.take_zero, List.drop_succ_cons, List.drop_zero]); (repeat (any_goals (first | go_big_quiet_step ((first | (go_at_call 26; (with_reducible apply quiet_same_b); (with_reducible exact rinWord_c _ _); with_reducible assumption) | (go_at_call 26; (with_reducible apply quiet_call_same); with_reducible exact rinWord_c _ _))) | quiet_step ((first | (go_at_call 26; (with_reducible apply quiet_same_b); (with_reducible exact rinWord_c _ _); with_reducible assumption) | (go_at_call 26; (with_reducible apply quiet_call_same); with_reducible exact rinWord_c _ _)))))); (with_reducible refine wpQuiet_nil ?_); intro r) | ((with_reducible show Code.wp _ (Code.region 36 _ true) _ _ _); (with_reducible refine wp_more_tailq (id := 36) 2 ?_ ?_ ?_); kernel_rfl; kernel_rfl; (try simp only [List.take_succ_cons, List.take_zero, List.drop_succ_cons, List.drop_zero]); (repeat (any_goals (first | go_big_quiet_step ((first | (go_at_call 26; (with_reducible apply quiet_same_b); (with_reducible exact rinWord_c _ _); with_reducible assumption) | (go_at_call 26; (with_reducible apply quiet_call_same); with_reducible exact rinWord_c _ _))) | quiet_step ((first | (go_at_call 26; (with_reducible apply quiet_same_b); (with_reducible exact rinWord_c _ _); with_reducible assumption) | (go_at_call 26; (with_reducible apply quiet_call_same); with_reducible exact rinWord_c _ _)))))); (with_reducible refine wpQuiet_nil ?_); intro r)))
              go_returns
              exact plainTold HX2.out.symm (by repeat (first | exact More.refl _ | refine More.alloc ?_ _ | refine More.more ?_ _ | refine More.drew ?_ | refine More.drewN ?_ _)) (.inl ⟨rfl, rfl⟩)
            rw [if_neg h20] at hx
            have HX2 := Lib.hid hx
            clear hx
            skip
            go_wp2_with (first | (at_builtin; refine wpList_append_w (W2 := (W.alloc (.cells #[.int .i64 0, .int .i64 0] 37))) rfl (.tmp 152) (.tmp 154) 35 rfl 42 i0 _ 4 40 und_t4 hi hz0 hz1 hz2 rfl (by decide) _ acc.length (flatC tk4 acc) (W.heap.size + 1) (by simp) rfl (by repeat (first | exact HO.out | with_reducible apply OwnW.alloc | with_reducible apply OwnW.more | with_reducible apply OwnW.drew)) (tk4 ⟨1, b :: t, L, C⟩) 1 _ rfl (by simp; try omega) rfl (tk4_one _) (by simp only [maxLen]; omega) (by omega) ?_; intro v2 w2 hown2; obtain ⟨s2, hw2, hs2⟩ := (OwnW.snoc hown2); clear hown2; subst hw2; have HO2 := Lib.hid (show OwnW (W.alloc (.cells #[.int .i64 0, .int .i64 0] 37)) (more (W.alloc (.cells #[.int .i64 0, .int .i64 0] 37)) s2) _ _ _ _ _ _ from ⟨s2, rfl, hs2⟩); clear hs2) | (first | (go_at_call 26; (with_reducible refine (rinWord_c _ _).mono ?_); rintro e w' ⟨rfl, rfl⟩) | (go_at_call 28; (with_reducible refine (read8_c _ (by (try simp only [size_bs]); omega) _).mono ?_); rintro e w' ⟨rfl, r, rfl⟩)))
            go_roundw
            case rel =>
              have hC := HC.out
              have hn := HN.out
              exact ⟨l.length, L, st, true, (acc ++ [⟨1, b :: t, L, C⟩]), _, (by first | rfl | exact int_is (by omega)), (by first | rfl | exact int_is (by omega)), rfl, (by first | rfl | exact int_is (by omega)), (by first | rfl | exact alloc_rest' _ _ _ | (simp only [alloc_rest', more_more]; rfl) | simp only [alloc_rest', more_more]), ⟨(by repeat (first | exact HO2.out | with_reducible apply OwnW.alloc | with_reducible apply OwnW.more | with_reducible apply OwnW.drew)), .inl ⟨by omega, n, C + (b :: t).length, by omega, by have := e4; first | omega | (simp only [List.length_cons]; omega), HX2.out, by exact (unended_snocK acc _ _ (L, C) (by decide)).symm⟩, by omega, by omega, by first | omega | (simp only [List.length_append, List.length_singleton]; omega)⟩⟩
            case measure => simp [intOf] <;> omega
      | false =>
        rw [hc] at bL
        cases hd : isD b with
        | true =>
          rw [hd] at bD
          clear bZ
          rw [lexF_number (.inr hd)] at hx
          have HX := Lib.hid hx
          clear hx
          go_wp2_with (first | (first | (go_at_call 25; (with_reducible refine (rletter_c _ _).mono ?_); rintro e w' ⟨rfl, rfl⟩) | (go_at_call 27; (with_reducible refine (digit8_c _ _).mono ?_); rintro e w' ⟨rfl, rfl⟩)))
          go_loop [12] (fun i => ∃ k : Nat, j + 1 ≤ k ∧ k ≤ l.length ∧ i = .int .i64 k ∧ ((l.drop (j + 1)).take (k - (j + 1))).all isNm = true) (fun i => l.length - (intOf i).toNat)
          case atStart => exact ⟨j + 1, by omega, by omega, (by first | rfl | exact int_is (by omega)), by simp⟩
          case round =>
            obtain ⟨k, hjk, hkl, rfl, ha⟩ := hrel
            have HA := Lib.hid ha
            clear ha
            by_cases hkl2 : k < l.length
            · have hkb := byteAt_bd l k
              have hp1 := isNm_of (l := l) (k := k)
              cases hd1 : isDz (byteAt l k) with
              | true =>
                rw [hd1] at hp1
                have hp : isNm (l.getD k 0) = true := hp1
                clear hp1
                have HM := Lib.hid (scan_more hjk HA.out hkl2 hp)
                clear hp
                go_wp2_with (first | (first | (go_at_call 27; (with_reducible refine (digit8_c _ _).mono ?_); rintro e w' ⟨rfl, rfl⟩)))
                exact ⟨⟨k + 1, by omega, by omega, rfl, HM.out⟩, by simp [intOf]; omega⟩
              | false =>
                rw [hd1] at hp1
                cases hd2 : (byteAt l k == 46) with
                | true =>
                  rw [hd2] at hp1
                  have hp : isNm (l.getD k 0) = true := hp1
                  clear hp1
                  have HM := Lib.hid (scan_more hjk HA.out hkl2 hp)
                  clear hp
                  go_wp2_with (first | (first | (go_at_call 27; (with_reducible refine (digit8_c _ _).mono ?_); rintro e w' ⟨rfl, rfl⟩)))
                  exact ⟨⟨k + 1, by omega, by omega, rfl, HM.out⟩, by simp [intOf]; omega⟩
                | false =>
                  rw [hd2] at hp1
                  have hp : isNm (l.getD k 0) = false := hp1
                  have HF : (l.drop (j + 1)).takeWhile isNm = (l.drop (j + 1)).take (k - (j + 1)) ∧ (l.drop (j + 1)).dropWhile isNm = l.drop k ∧ (l.drop j).take (k - j) = b :: (l.drop (j + 1)).take (k - (j + 1)) ∧ ((l.drop (j + 1)).take (k - (j + 1))).length = k - (j + 1) := by
                    obtain ⟨e1, e2, e3⟩ := scan_stop hjk HA.out (.inr ⟨hkl2, hp⟩)
                    exact ⟨e1, e2, HT.out _ (by omega), e3⟩
                  clear hp hp1
                  obtain ⟨e1, e2, e3, e4⟩ := HF
                  obtain ⟨t, ht⟩ : ∃ t, (l.drop (j + 1)).take (k - (j + 1)) = t := ⟨_, rfl⟩
                  rw [ht] at e1 e3 e4
                  have hsl := fun w => slice_bs (P := Tryd.prog) (l := l) (j := j) (k := k) 9 (by kernel_rfl) (by omega) (by omega) w
                  rw [e3] at hsl
                  have hx := HX.out
                  rw [e1, e2] at hx
                  clear e1 e2 ht
                  have hbt : (b :: t).length = k - j := by rw [List.length_cons]; omega
                  obtain ⟨ok, hok⟩ : ∃ b', (readP (b :: t)).2 = b' := ⟨_, rfl⟩
                  rw [hok] at hx
                  cases ok with
                  | false =>
                    rw [if_neg (by simp)] at hx
                    have HX2 := Lib.hid hx
                    clear hx
                    go_wp2_with (first | (first | (go_at_call 27; (with_reducible refine (digit8_c _ _).mono ?_); rintro e w' ⟨rfl, rfl⟩) | (go_at_call 28; (with_reducible refine (read8_c _ (by (try simp only [size_bs]); omega) _).mono ?_); rintro e w' ⟨rfl, r, rfl⟩) | ((with_reducible show Code.wp _ (Code.region 39 _ true) _ _ _); (with_reducible refine wp_more_tailq_m (id := 39) 2 ?_ ?_ ?_); kernel_rfl; kernel_rfl; (try simp only [List.take_succ_cons, List.take_zero, List.drop_succ_cons, List.drop_zero]); (repeat (any_goals (first | go_big_quiet_step ((first | (go_at_call 27; (with_reducible apply quiet_same_b); (with_reducible exact digit8_c _ _); with_reducible assumption) | (go_at_call 27; (with_reducible apply quiet_call_same); with_reducible exact digit8_c _ _) | (go_at_call 28; (with_reducible apply quiet_call); with_reducible exact read8_c _ (by (try simp only [size_bs]); omega) _))) | quiet_step ((first | (go_at_call 27; (with_reducible apply quiet_same_b); (with_reducible exact digit8_c _ _); with_reducible assumption) | (go_at_call 27; (with_reducible apply quiet_call_same); with_reducible exact digit8_c _ _) | (go_at_call 28; (with_reducible apply quiet_call); with_reducible exact read8_c _ (by (try simp only [size_bs]); omega) _)))))); (with_reducible refine wpQuiet_nil ?_); intro r) | ((with_reducible show Code.wp _ (Code.region 39 _ true) _ _ _); (with_reducible refine wp_more_tailq (id := 39) 2 ?_ ?_ ?_); kernel_rfl; kernel_rfl; (try simp only [List.take_succ_cons, List.take_zero, List.drop_succ_cons, List.drop_zero]); (repeat (any_goals (first | go_big_quiet_step ((first | (go_at_call 27; (with_reducible apply quiet_same_b); (with_reducible exact digit8_c _ _); with_reducible assumption) | (go_at_call 27; (with_reducible apply quiet_call_same); with_reducible exact digit8_c _ _) | (go_at_call 28; (with_reducible apply quiet_call); with_reducible exact read8_c _ (by (try simp only [size_bs]); omega) _))) | quiet_step ((first | (go_at_call 27; (with_reducible apply quiet_same_b); (with_reducible exact digit8_c _ _); with_reducible assumption) | (go_at_call 27; (with_reducible apply quiet_call_same); with_reducible exact digit8_c _ _) | (go_at_call 28; (with_reducible apply quiet_call); with_reducible exact read8_c _ (by (try simp only [size_bs]); omega) _)))))); (with_reducible refine wpQuiet_nil ?_); intro r)))
                    go_returns
                    exact plainTold HX2.out.symm (by repeat (first | exact More.refl _ | refine More.alloc ?_ _ | refine More.more ?_ _ | refine More.drew ?_ | refine More.drewN ?_ _)) (.inl ⟨rfl, rfl⟩)
                  | true =>
                    rw [if_pos rfl] at hx
                    have HX2 := Lib.hid hx
                    clear hx
                    go_wp2_with (first | (at_builtin; refine wpList_append_w (W2 := (W.alloc (.cells #[.int .i64 0, .int .i64 0] 37))) rfl (.tmp 152) (.tmp 154) 35 rfl 42 i0 _ 4 40 und_t4 hi hz0 hz1 hz2 rfl (by decide) _ acc.length (flatC tk4 acc) (W.heap.size + 1) (by simp) rfl (by repeat (first | exact HO.out | with_reducible apply OwnW.alloc | with_reducible apply OwnW.more | with_reducible apply OwnW.drew)) (tk4 ⟨2, b :: t, L, C⟩) 1 _ rfl (by simp; try omega) rfl (tk4_one _) (by simp only [maxLen]; omega) (by omega) ?_; intro v2 w2 hown2; obtain ⟨s2, hw2, hs2⟩ := (OwnW.snoc hown2); clear hown2; subst hw2; have HO2 := Lib.hid (show OwnW (W.alloc (.cells #[.int .i64 0, .int .i64 0] 37)) (more (W.alloc (.cells #[.int .i64 0, .int .i64 0] 37)) s2) _ _ _ _ _ _ from ⟨s2, rfl, hs2⟩); clear hs2) | (first | (go_at_call 27; (with_reducible refine (digit8_c _ _).mono ?_); rintro e w' ⟨rfl, rfl⟩) | (go_at_call 28; (with_reducible refine (read8_c _ (by (try simp only [size_bs]); omega) _).mono ?_); rintro e w' ⟨rfl, r, rfl⟩)))
                    go_roundw
                    case rel =>
                      have hC := HC.out
                      have hn := HN.out
                      exact ⟨k, L, st, true, (acc ++ [⟨2, b :: t, L, C⟩]), _, (by first | rfl | exact int_is (by omega)), (by first | rfl | exact int_is (by omega)), rfl, (by first | rfl | exact int_is (by omega)), (by first | rfl | exact alloc_rest' _ _ _ | (simp only [alloc_rest', more_more]; rfl) | simp only [alloc_rest', more_more]), ⟨(by repeat (first | exact HO2.out | with_reducible apply OwnW.alloc | with_reducible apply OwnW.more | with_reducible apply OwnW.drew)), .inl ⟨by omega, n, C + (1 + t.length), by omega, by have := e4; first | omega | (simp only [List.length_cons]; omega), HX2.out, by exact (unended_snocK acc _ _ (L, C) (by decide)).symm⟩, by omega, by omega, by first | omega | (simp only [List.length_append, List.length_singleton]; omega)⟩⟩
                    case measure => simp [intOf] <;> omega
            · obtain rfl : k = l.length := by omega
              have HF : (l.drop (j + 1)).takeWhile isNm = (l.drop (j + 1)).take (l.length - (j + 1)) ∧ (l.drop (j + 1)).dropWhile isNm = l.drop l.length ∧ (l.drop j).take (l.length - j) = b :: (l.drop (j + 1)).take (l.length - (j + 1)) ∧ ((l.drop (j + 1)).take (l.length - (j + 1))).length = l.length - (j + 1) := by
                obtain ⟨e1, e2, e3⟩ := scan_stop hjk HA.out (.inl rfl)
                exact ⟨e1, e2, HT.out _ (by omega), e3⟩
              obtain ⟨e1, e2, e3, e4⟩ := HF
              obtain ⟨t, ht⟩ : ∃ t, (l.drop (j + 1)).take (l.length - (j + 1)) = t := ⟨_, rfl⟩
              rw [ht] at e1 e3 e4
              have hsl := fun w => slice_bs (P := Tryd.prog) (l := l) (j := j) (k := l.length) 9 (by kernel_rfl) (by omega) (by omega) w
              rw [e3] at hsl
              have hx := HX.out
              rw [e1, e2] at hx
              clear e1 e2 ht
              have hbt : (b :: t).length = l.length - j := by rw [List.length_cons]; omega
              obtain ⟨ok, hok⟩ : ∃ b', (readP (b :: t)).2 = b' := ⟨_, rfl⟩
              rw [hok] at hx
              cases ok with
              | false =>
                rw [if_neg (by simp)] at hx
                have HX2 := Lib.hid hx
                clear hx
                go_wp2_with (first | (first | (go_at_call 27; (with_reducible refine (digit8_c _ _).mono ?_); rintro e w' ⟨rfl, rfl⟩) | (go_at_call 28; (with_reducible refine (read8_c _ (by (try simp only [size_bs]); omega) _).mono ?_); rintro e w' ⟨rfl, r, rfl⟩) | ((with_reducible show Code.wp _ (Code.region 39 _ true) _ _ _); (with_reducible refine wp_more_tailq_m (id := 39) 2 ?_ ?_ ?_); kernel_rfl; kernel_rfl; (try simp only [List.take_succ_cons, List.take_zero, List.drop_succ_cons, List.drop_zero]); (repeat (any_goals (first | go_big_quiet_step ((first | (go_at_call 27; (with_reducible apply quiet_same_b); (with_reducible exact digit8_c _ _); with_reducible assumption) | (go_at_call 27; (with_reducible apply quiet_call_same); with_reducible exact digit8_c _ _) | (go_at_call 28; (with_reducible apply quiet_call); with_reducible exact read8_c _ (by (try simp only [size_bs]); omega) _))) | quiet_step ((first | (go_at_call 27; (with_reducible apply quiet_same_b); (with_reducible exact digit8_c _ _); with_reducible assumption) | (go_at_call 27; (with_reducible apply quiet_call_same); with_reducible exact digit8_c _ _) | (go_at_call 28; (with_reducible apply quiet_call); with_reducible exact read8_c _ (by (try simp only [size_bs]); omega) _)))))); (with_reducible refine wpQuiet_nil ?_); intro r) | ((with_reducible show Code.wp _ (Code.region 39 _ true) _ _ _); (with_reducible refine wp_more_tailq (id := 39) 2 ?_ ?_ ?_); kernel_rfl; kernel_rfl; (try simp only [List.take_succ_cons, List.take_zero, List.drop_succ_cons, List.drop_zero]); (repeat (any_goals (first | go_big_quiet_step ((first | (go_at_call 27; (with_reducible apply quiet_same_b); (with_reducible exact digit8_c _ _); with_reducible assumption) | (go_at_call 27; (with_reducible apply quiet_call_same); with_reducible exact digit8_c _ _) | (go_at_call 28; (with_reducible apply quiet_call); with_reducible exact read8_c _ (by (try simp only [size_bs]); omega) _))) | quiet_step ((first | (go_at_call 27; (with_reducible apply quiet_same_b); (with_reducible exact digit8_c _ _); with_reducible assumption) | (go_at_call 27; (with_reducible apply quiet_call_same); with_reducible exact digit8_c _ _) | (go_at_call 28; (with_reducible apply quiet_call); with_reducible exact read8_c _ (by (try simp only [size_bs]); omega) _)))))); (with_reducible refine wpQuiet_nil ?_); intro r)))
                go_returns
                exact plainTold HX2.out.symm (by repeat (first | exact More.refl _ | refine More.alloc ?_ _ | refine More.more ?_ _ | refine More.drew ?_ | refine More.drewN ?_ _)) (.inl ⟨rfl, rfl⟩)
              | true =>
                rw [if_pos rfl] at hx
                have HX2 := Lib.hid hx
                clear hx
                go_wp2_with (first | (at_builtin; refine wpList_append_w (W2 := (W.alloc (.cells #[.int .i64 0, .int .i64 0] 37))) rfl (.tmp 152) (.tmp 154) 35 rfl 42 i0 _ 4 40 und_t4 hi hz0 hz1 hz2 rfl (by decide) _ acc.length (flatC tk4 acc) (W.heap.size + 1) (by simp) rfl (by repeat (first | exact HO.out | with_reducible apply OwnW.alloc | with_reducible apply OwnW.more | with_reducible apply OwnW.drew)) (tk4 ⟨2, b :: t, L, C⟩) 1 _ rfl (by simp; try omega) rfl (tk4_one _) (by simp only [maxLen]; omega) (by omega) ?_; intro v2 w2 hown2; obtain ⟨s2, hw2, hs2⟩ := (OwnW.snoc hown2); clear hown2; subst hw2; have HO2 := Lib.hid (show OwnW (W.alloc (.cells #[.int .i64 0, .int .i64 0] 37)) (more (W.alloc (.cells #[.int .i64 0, .int .i64 0] 37)) s2) _ _ _ _ _ _ from ⟨s2, rfl, hs2⟩); clear hs2) | (first | (go_at_call 27; (with_reducible refine (digit8_c _ _).mono ?_); rintro e w' ⟨rfl, rfl⟩) | (go_at_call 28; (with_reducible refine (read8_c _ (by (try simp only [size_bs]); omega) _).mono ?_); rintro e w' ⟨rfl, r, rfl⟩)))
                go_roundw
                case rel =>
                  have hC := HC.out
                  have hn := HN.out
                  exact ⟨l.length, L, st, true, (acc ++ [⟨2, b :: t, L, C⟩]), _, (by first | rfl | exact int_is (by omega)), (by first | rfl | exact int_is (by omega)), rfl, (by first | rfl | exact int_is (by omega)), (by first | rfl | exact alloc_rest' _ _ _ | (simp only [alloc_rest', more_more]; rfl) | simp only [alloc_rest', more_more]), ⟨(by repeat (first | exact HO2.out | with_reducible apply OwnW.alloc | with_reducible apply OwnW.more | with_reducible apply OwnW.drew)), .inl ⟨by omega, n, C + (1 + t.length), by omega, by have := e4; first | omega | (simp only [List.length_cons]; omega), HX2.out, by exact (unended_snocK acc _ _ (L, C) (by decide)).symm⟩, by omega, by omega, by first | omega | (simp only [List.length_append, List.length_singleton]; omega)⟩⟩
                case measure => simp [intOf] <;> omega
        | false =>
          rw [hd] at bD
          by_cases c45 : b = 45
          · subst c45
            replace bZ : (byteAt l j == 45) = true := bZ
            rw [lexF_number (.inl rfl)] at hx
            have HX := Lib.hid hx
            clear hx
            go_wp2_with (first | (first | (go_at_call 25; (with_reducible refine (rletter_c _ _).mono ?_); rintro e w' ⟨rfl, rfl⟩) | (go_at_call 27; (with_reducible refine (digit8_c _ _).mono ?_); rintro e w' ⟨rfl, rfl⟩)))
            go_loop [12] (fun i => ∃ k : Nat, j + 1 ≤ k ∧ k ≤ l.length ∧ i = .int .i64 k ∧ ((l.drop (j + 1)).take (k - (j + 1))).all isNm = true) (fun i => l.length - (intOf i).toNat)
            case atStart => exact ⟨j + 1, by omega, by omega, (by first | rfl | exact int_is (by omega)), by simp⟩
            case round =>
              obtain ⟨k, hjk, hkl, rfl, ha⟩ := hrel
              have HA := Lib.hid ha
              clear ha
              by_cases hkl2 : k < l.length
              · have hkb := byteAt_bd l k
                have hp1 := isNm_of (l := l) (k := k)
                cases hd1 : isDz (byteAt l k) with
                | true =>
                  rw [hd1] at hp1
                  have hp : isNm (l.getD k 0) = true := hp1
                  clear hp1
                  have HM := Lib.hid (scan_more hjk HA.out hkl2 hp)
                  clear hp
                  go_wp2_with (first | (first | (go_at_call 27; (with_reducible refine (digit8_c _ _).mono ?_); rintro e w' ⟨rfl, rfl⟩)))
                  exact ⟨⟨k + 1, by omega, by omega, rfl, HM.out⟩, by simp [intOf]; omega⟩
                | false =>
                  rw [hd1] at hp1
                  cases hd2 : (byteAt l k == 46) with
                  | true =>
                    rw [hd2] at hp1
                    have hp : isNm (l.getD k 0) = true := hp1
                    clear hp1
                    have HM := Lib.hid (scan_more hjk HA.out hkl2 hp)
                    clear hp
                    go_wp2_with (first | (first | (go_at_call 27; (with_reducible refine (digit8_c _ _).mono ?_); rintro e w' ⟨rfl, rfl⟩)))
                    exact ⟨⟨k + 1, by omega, by omega, rfl, HM.out⟩, by simp [intOf]; omega⟩
                  | false =>
                    rw [hd2] at hp1
                    have hp : isNm (l.getD k 0) = false := hp1
                    have HF : (l.drop (j + 1)).takeWhile isNm = (l.drop (j + 1)).take (k - (j + 1)) ∧ (l.drop (j + 1)).dropWhile isNm = l.drop k ∧ (l.drop j).take (k - j) = 45 :: (l.drop (j + 1)).take (k - (j + 1)) ∧ ((l.drop (j + 1)).take (k - (j + 1))).length = k - (j + 1) := by
                      obtain ⟨e1, e2, e3⟩ := scan_stop hjk HA.out (.inr ⟨hkl2, hp⟩)
                      exact ⟨e1, e2, HT.out _ (by omega), e3⟩
                    clear hp hp1
                    obtain ⟨e1, e2, e3, e4⟩ := HF
                    obtain ⟨t, ht⟩ : ∃ t, (l.drop (j + 1)).take (k - (j + 1)) = t := ⟨_, rfl⟩
                    rw [ht] at e1 e3 e4
                    have hsl := fun w => slice_bs (P := Tryd.prog) (l := l) (j := j) (k := k) 9 (by kernel_rfl) (by omega) (by omega) w
                    rw [e3] at hsl
                    have hx := HX.out
                    rw [e1, e2] at hx
                    clear e1 e2 ht
                    have hbt : (45 :: t).length = k - j := by rw [List.length_cons]; omega
                    obtain ⟨ok, hok⟩ : ∃ b', (readP (45 :: t)).2 = b' := ⟨_, rfl⟩
                    rw [hok] at hx
                    cases ok with
                    | false =>
                      rw [if_neg (by simp)] at hx
                      have HX2 := Lib.hid hx
                      clear hx
                      go_wp2_with (first | (first | (go_at_call 27; (with_reducible refine (digit8_c _ _).mono ?_); rintro e w' ⟨rfl, rfl⟩) | (go_at_call 28; (with_reducible refine (read8_c _ (by (try simp only [size_bs]); omega) _).mono ?_); rintro e w' ⟨rfl, r, rfl⟩) | ((with_reducible show Code.wp _ (Code.region 39 _ true) _ _ _); (with_reducible refine wp_more_tailq_m (id := 39) 2 ?_ ?_ ?_); kernel_rfl; kernel_rfl; (try simp only [List.take_succ_cons, List.take_zero, List.drop_succ_cons, List.drop_zero]); (repeat (any_goals (first | go_big_quiet_step ((first | (go_at_call 27; (with_reducible apply quiet_same_b); (with_reducible exact digit8_c _ _); with_reducible assumption) | (go_at_call 27; (with_reducible apply quiet_call_same); with_reducible exact digit8_c _ _) | (go_at_call 28; (with_reducible apply quiet_call); with_reducible exact read8_c _ (by (try simp only [size_bs]); omega) _))) | quiet_step ((first | (go_at_call 27; (with_reducible apply quiet_same_b); (with_reducible exact digit8_c _ _); with_reducible assumption) | (go_at_call 27; (with_reducible apply quiet_call_same); with_reducible exact digit8_c _ _) | (go_at_call 28; (with_reducible apply quiet_call); with_reducible exact read8_c _ (by (try simp only [size_bs]); omega) _)))))); (with_reducible refine wpQuiet_nil ?_); intro r) | ((with_reducible show Code.wp _ (Code.region 39 _ true) _ _ _); (with_reducible refine wp_more_tailq (id := 39) 2 ?_ ?_ ?_); kernel_rfl; kernel_rfl; (try simp only [List.take_succ_cons, List.take_zero, List.drop_succ_cons, List.drop_zero]); (repeat (any_goals (first | go_big_quiet_step ((first | (go_at_call 27; (with_reducible apply quiet_same_b); (with_reducible exact digit8_c _ _); with_reducible assumption) | (go_at_call 27; (with_reducible apply quiet_call_same); with_reducible exact digit8_c _ _) | (go_at_call 28; (with_reducible apply quiet_call); with_reducible exact read8_c _ (by (try simp only [size_bs]); omega) _))) | quiet_step ((first | (go_at_call 27; (with_reducible apply quiet_same_b); (with_reducible exact digit8_c _ _); with_reducible assumption) | (go_at_call 27; (with_reducible apply quiet_call_same); with_reducible exact digit8_c _ _) | (go_at_call 28; (with_reducible apply quiet_call); with_reducible exact read8_c _ (by (try simp only [size_bs]); omega) _)))))); (with_reducible refine wpQuiet_nil ?_); intro r)))
                      go_returns
                      exact plainTold HX2.out.symm (by repeat (first | exact More.refl _ | refine More.alloc ?_ _ | refine More.more ?_ _ | refine More.drew ?_ | refine More.drewN ?_ _)) (.inl ⟨rfl, rfl⟩)
                    | true =>
                      rw [if_pos rfl] at hx
                      have HX2 := Lib.hid hx
                      clear hx
                      go_wp2_with (first | (at_builtin; refine wpList_append_w (W2 := (W.alloc (.cells #[.int .i64 0, .int .i64 0] 37))) rfl (.tmp 152) (.tmp 154) 35 rfl 42 i0 _ 4 40 und_t4 hi hz0 hz1 hz2 rfl (by decide) _ acc.length (flatC tk4 acc) (W.heap.size + 1) (by simp) rfl (by repeat (first | exact HO.out | with_reducible apply OwnW.alloc | with_reducible apply OwnW.more | with_reducible apply OwnW.drew)) (tk4 ⟨2, 45 :: t, L, C⟩) 1 _ rfl (by simp; try omega) rfl (tk4_one _) (by simp only [maxLen]; omega) (by omega) ?_; intro v2 w2 hown2; obtain ⟨s2, hw2, hs2⟩ := (OwnW.snoc hown2); clear hown2; subst hw2; have HO2 := Lib.hid (show OwnW (W.alloc (.cells #[.int .i64 0, .int .i64 0] 37)) (more (W.alloc (.cells #[.int .i64 0, .int .i64 0] 37)) s2) _ _ _ _ _ _ from ⟨s2, rfl, hs2⟩); clear hs2) | (first | (go_at_call 27; (with_reducible refine (digit8_c _ _).mono ?_); rintro e w' ⟨rfl, rfl⟩) | (go_at_call 28; (with_reducible refine (read8_c _ (by (try simp only [size_bs]); omega) _).mono ?_); rintro e w' ⟨rfl, r, rfl⟩)))
                      go_roundw
                      case rel =>
                        have hC := HC.out
                        have hn := HN.out
                        exact ⟨k, L, st, true, (acc ++ [⟨2, 45 :: t, L, C⟩]), _, (by first | rfl | exact int_is (by omega)), (by first | rfl | exact int_is (by omega)), rfl, (by first | rfl | exact int_is (by omega)), (by first | rfl | exact alloc_rest' _ _ _ | (simp only [alloc_rest', more_more]; rfl) | simp only [alloc_rest', more_more]), ⟨(by repeat (first | exact HO2.out | with_reducible apply OwnW.alloc | with_reducible apply OwnW.more | with_reducible apply OwnW.drew)), .inl ⟨by omega, n, C + (1 + t.length), by omega, by have := e4; first | omega | (simp only [List.length_cons]; omega), HX2.out, by exact (unended_snocK acc _ _ (L, C) (by decide)).symm⟩, by omega, by omega, by first | omega | (simp only [List.length_append, List.length_singleton]; omega)⟩⟩
                      case measure => simp [intOf] <;> omega
              · obtain rfl : k = l.length := by omega
                have HF : (l.drop (j + 1)).takeWhile isNm = (l.drop (j + 1)).take (l.length - (j + 1)) ∧ (l.drop (j + 1)).dropWhile isNm = l.drop l.length ∧ (l.drop j).take (l.length - j) = 45 :: (l.drop (j + 1)).take (l.length - (j + 1)) ∧ ((l.drop (j + 1)).take (l.length - (j + 1))).length = l.length - (j + 1) := by
                  obtain ⟨e1, e2, e3⟩ := scan_stop hjk HA.out (.inl rfl)
                  exact ⟨e1, e2, HT.out _ (by omega), e3⟩
                obtain ⟨e1, e2, e3, e4⟩ := HF
                obtain ⟨t, ht⟩ : ∃ t, (l.drop (j + 1)).take (l.length - (j + 1)) = t := ⟨_, rfl⟩
                rw [ht] at e1 e3 e4
                have hsl := fun w => slice_bs (P := Tryd.prog) (l := l) (j := j) (k := l.length) 9 (by kernel_rfl) (by omega) (by omega) w
                rw [e3] at hsl
                have hx := HX.out
                rw [e1, e2] at hx
                clear e1 e2 ht
                have hbt : (45 :: t).length = l.length - j := by rw [List.length_cons]; omega
                obtain ⟨ok, hok⟩ : ∃ b', (readP (45 :: t)).2 = b' := ⟨_, rfl⟩
                rw [hok] at hx
                cases ok with
                | false =>
                  rw [if_neg (by simp)] at hx
                  have HX2 := Lib.hid hx
                  clear hx
                  go_wp2_with (first | (first | (go_at_call 27; (with_reducible refine (digit8_c _ _).mono ?_); rintro e w' ⟨rfl, rfl⟩) | (go_at_call 28; (with_reducible refine (read8_c _ (by (try simp only [size_bs]); omega) _).mono ?_); rintro e w' ⟨rfl, r, rfl⟩) | ((with_reducible show Code.wp _ (Code.region 39 _ true) _ _ _); (with_reducible refine wp_more_tailq_m (id := 39) 2 ?_ ?_ ?_); kernel_rfl; kernel_rfl; (try simp only [List.take_succ_cons, List.take_zero, List.drop_succ_cons, List.drop_zero]); (repeat (any_goals (first | go_big_quiet_step ((first | (go_at_call 27; (with_reducible apply quiet_same_b); (with_reducible exact digit8_c _ _); with_reducible assumption) | (go_at_call 27; (with_reducible apply quiet_call_same); with_reducible exact digit8_c _ _) | (go_at_call 28; (with_reducible apply quiet_call); with_reducible exact read8_c _ (by (try simp only [size_bs]); omega) _))) | quiet_step ((first | (go_at_call 27; (with_reducible apply quiet_same_b); (with_reducible exact digit8_c _ _); with_reducible assumption) | (go_at_call 27; (with_reducible apply quiet_call_same); with_reducible exact digit8_c _ _) | (go_at_call 28; (with_reducible apply quiet_call); with_reducible exact read8_c _ (by (try simp only [size_bs]); omega) _)))))); (with_reducible refine wpQuiet_nil ?_); intro r) | ((with_reducible show Code.wp _ (Code.region 39 _ true) _ _ _); (with_reducible refine wp_more_tailq (id := 39) 2 ?_ ?_ ?_); kernel_rfl; kernel_rfl; (try simp only [List.take_succ_cons, List.take_zero, List.drop_succ_cons, List.drop_zero]); (repeat (any_goals (first | go_big_quiet_step ((first | (go_at_call 27; (with_reducible apply quiet_same_b); (with_reducible exact digit8_c _ _); with_reducible assumption) | (go_at_call 27; (with_reducible apply quiet_call_same); with_reducible exact digit8_c _ _) | (go_at_call 28; (with_reducible apply quiet_call); with_reducible exact read8_c _ (by (try simp only [size_bs]); omega) _))) | quiet_step ((first | (go_at_call 27; (with_reducible apply quiet_same_b); (with_reducible exact digit8_c _ _); with_reducible assumption) | (go_at_call 27; (with_reducible apply quiet_call_same); with_reducible exact digit8_c _ _) | (go_at_call 28; (with_reducible apply quiet_call); with_reducible exact read8_c _ (by (try simp only [size_bs]); omega) _)))))); (with_reducible refine wpQuiet_nil ?_); intro r)))
                  go_returns
                  exact plainTold HX2.out.symm (by repeat (first | exact More.refl _ | refine More.alloc ?_ _ | refine More.more ?_ _ | refine More.drew ?_ | refine More.drewN ?_ _)) (.inl ⟨rfl, rfl⟩)
                | true =>
                  rw [if_pos rfl] at hx
                  have HX2 := Lib.hid hx
                  clear hx
                  go_wp2_with (first | (at_builtin; refine wpList_append_w (W2 := (W.alloc (.cells #[.int .i64 0, .int .i64 0] 37))) rfl (.tmp 152) (.tmp 154) 35 rfl 42 i0 _ 4 40 und_t4 hi hz0 hz1 hz2 rfl (by decide) _ acc.length (flatC tk4 acc) (W.heap.size + 1) (by simp) rfl (by repeat (first | exact HO.out | with_reducible apply OwnW.alloc | with_reducible apply OwnW.more | with_reducible apply OwnW.drew)) (tk4 ⟨2, 45 :: t, L, C⟩) 1 _ rfl (by simp; try omega) rfl (tk4_one _) (by simp only [maxLen]; omega) (by omega) ?_; intro v2 w2 hown2; obtain ⟨s2, hw2, hs2⟩ := (OwnW.snoc hown2); clear hown2; subst hw2; have HO2 := Lib.hid (show OwnW (W.alloc (.cells #[.int .i64 0, .int .i64 0] 37)) (more (W.alloc (.cells #[.int .i64 0, .int .i64 0] 37)) s2) _ _ _ _ _ _ from ⟨s2, rfl, hs2⟩); clear hs2) | (first | (go_at_call 27; (with_reducible refine (digit8_c _ _).mono ?_); rintro e w' ⟨rfl, rfl⟩) | (go_at_call 28; (with_reducible refine (read8_c _ (by (try simp only [size_bs]); omega) _).mono ?_); rintro e w' ⟨rfl, r, rfl⟩)))
                  go_roundw
                  case rel =>
                    have hC := HC.out
                    have hn := HN.out
                    exact ⟨l.length, L, st, true, (acc ++ [⟨2, 45 :: t, L, C⟩]), _, (by first | rfl | exact int_is (by omega)), (by first | rfl | exact int_is (by omega)), rfl, (by first | rfl | exact int_is (by omega)), (by first | rfl | exact alloc_rest' _ _ _ | (simp only [alloc_rest', more_more]; rfl) | simp only [alloc_rest', more_more]), ⟨(by repeat (first | exact HO2.out | with_reducible apply OwnW.alloc | with_reducible apply OwnW.more | with_reducible apply OwnW.drew)), .inl ⟨by omega, n, C + (1 + t.length), by omega, by have := e4; first | omega | (simp only [List.length_cons]; omega), HX2.out, by exact (unended_snocK acc _ _ (L, C) (by decide)).symm⟩, by omega, by omega, by first | omega | (simp only [List.length_append, List.length_singleton]; omega)⟩⟩
                  case measure => simp [intOf] <;> omega
          replace bZ : (byteAt l j == 45) = false := by rw [bZ]; simpa using c45
          rw [lexF_other hcb c10 c35 hc c45 hd] at hx
          have HX := Lib.hid hx
          clear hx
          go_wp2_with (first | (first | (go_at_call 25; (with_reducible refine (rletter_c _ _).mono ?_); rintro e w' ⟨rfl, rfl⟩) | (go_at_call 27; (with_reducible refine (digit8_c _ _).mono ?_); rintro e w' ⟨rfl, rfl⟩) | ((with_reducible show Code.wp _ (Code.region 25 _ true) _ _ _); (with_reducible refine wp_more_tailq_m (id := 25) 2 ?_ ?_ ?_); kernel_rfl; kernel_rfl; (try simp only [List.take_succ_cons, List.take_zero, List.drop_succ_cons, List.drop_zero]); (repeat (any_goals (first | go_big_quiet_step ((first | (go_at_call 25; (with_reducible apply quiet_same_b); (with_reducible exact rletter_c _ _); with_reducible assumption) | (go_at_call 25; (with_reducible apply quiet_call_same); with_reducible exact rletter_c _ _) | (go_at_call 27; (with_reducible apply quiet_same_b); (with_reducible exact digit8_c _ _); with_reducible assumption) | (go_at_call 27; (with_reducible apply quiet_call_same); with_reducible exact digit8_c _ _))) | quiet_step ((first | (go_at_call 25; (with_reducible apply quiet_same_b); (with_reducible exact rletter_c _ _); with_reducible assumption) | (go_at_call 25; (with_reducible apply quiet_call_same); with_reducible exact rletter_c _ _) | (go_at_call 27; (with_reducible apply quiet_same_b); (with_reducible exact digit8_c _ _); with_reducible assumption) | (go_at_call 27; (with_reducible apply quiet_call_same); with_reducible exact digit8_c _ _)))))); (with_reducible refine wpQuiet_nil ?_); intro r) | ((with_reducible show Code.wp _ (Code.region 25 _ true) _ _ _); (with_reducible refine wp_more_tailq (id := 25) 2 ?_ ?_ ?_); kernel_rfl; kernel_rfl; (try simp only [List.take_succ_cons, List.take_zero, List.drop_succ_cons, List.drop_zero]); (repeat (any_goals (first | go_big_quiet_step ((first | (go_at_call 25; (with_reducible apply quiet_same_b); (with_reducible exact rletter_c _ _); with_reducible assumption) | (go_at_call 25; (with_reducible apply quiet_call_same); with_reducible exact rletter_c _ _) | (go_at_call 27; (with_reducible apply quiet_same_b); (with_reducible exact digit8_c _ _); with_reducible assumption) | (go_at_call 27; (with_reducible apply quiet_call_same); with_reducible exact digit8_c _ _))) | quiet_step ((first | (go_at_call 25; (with_reducible apply quiet_same_b); (with_reducible exact rletter_c _ _); with_reducible assumption) | (go_at_call 25; (with_reducible apply quiet_call_same); with_reducible exact rletter_c _ _) | (go_at_call 27; (with_reducible apply quiet_same_b); (with_reducible exact digit8_c _ _); with_reducible assumption) | (go_at_call 27; (with_reducible apply quiet_call_same); with_reducible exact digit8_c _ _)))))); (with_reducible refine wpQuiet_nil ?_); intro r)))
          go_returns
          exact plainTold HX.out.symm (by repeat (first | exact More.refl _ | refine More.alloc ?_ _ | refine More.more ?_ _ | refine More.drew ?_ | refine More.drewN ?_ _)) (.inl ⟨rfl, rfl⟩)
    · have hjne : ¬ ((l.length + 1 : Nat) : Int) ≤ (l.length : Int) := by omega
      have HX := Lib.hid hx
      clear hx
      go_wp2_with fail
      go_returns
      exact plainTold HX.out (by repeat (first | exact More.refl _ | refine More.alloc ?_ _ | refine More.more ?_ _ | refine More.drew ?_ | refine More.drewN ?_ _)) (OwnW.row (X := (W.alloc (.cells #[.int .i64 0, .int .i64 0] 37))) (base := W.heap.size + 1) tk4_len (by decide) (by simp) (by repeat (first | exact HO.out | with_reducible apply OwnW.alloc | with_reducible apply OwnW.more | with_reducible apply OwnW.drew)))
end Go.Proofs.YthhipepdkpoomaaDoor

