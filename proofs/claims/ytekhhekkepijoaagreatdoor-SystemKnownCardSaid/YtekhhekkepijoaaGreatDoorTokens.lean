/-
  Words and numbers: the walk of Tokens.
-/
import Derived.Test.YtekhhekkepijoaaGreatDoorGe
import Derived.Test.YtekhhekkepijoaaGreatDoorGa
import Derived.Test.YtekhhekkepijoaaGreatDoorGd
namespace Go.Proofs.YtekhhekkepijoaaGreatDoor
set_option linter.unusedVariables false
open Go.ChangeShapes Go.WideShapes Go.ChangeAt Go.RowKit

/-- What holds wherever the scan begins anew. -/
structure Scan (l : List UInt8) (W : World) (r : List UInt8) (L C : Nat) (acc : List Tk) (v : Value) (s : Rest) : Prop where
  own : OwnS (W.heap.size + 2) s 89 3 v acc.length (flatC tk3 acc)
  lex : ∃ n, r.length < n ∧ lexF n r L C acc = lexP l
  hL : L + r.length ≤ 4001
  hC : C + r.length ≤ 4001
  hA : acc.length + r.length ≤ 4000
def AtZero (l : List UInt8) (W : World) (a : Act) (w : World) : Prop :=
  ∃ (r : List UInt8) (L C : Nat) (acc : List Tk) (s : Rest) (k0 : Int) (b0 : ByteArray) (x0 y0 : Nat) (v : Value) (u : Nat → Value),
    a = { tmps := #[.string (bsOf l), u 1, .slice none 0 0, .complex .f64 0 0, .int .i64 0, .pointer (some ⟨W.heap.size, 0, none⟩), v, .pointer (some ⟨W.heap.size + 1, 0, none⟩), u 8, u 9, u 10, u 11, u 12, u 13, u 14, u 15, u 16, u 17, u 18, u 19, u 20, u 21, u 22, u 23, u 24, u 25, u 26, u 27, u 28, u 29, u 30, u 31, u 32, u 33, u 34, u 35, u 36, u 37, u 38, u 39, u 40, u 41, u 42, u 43, u 44, u 45, u 46, u 47, u 48, u 49, u 50, u 51, u 52, u 53, u 54, u 55, u 56, u 57, u 58, u 59, u 60, u 61, u 62, u 63, u 64, u 65, u 66, u 67, u 68, u 69, u 70, u 71, u 72, u 73, u 74, u 75, u 76, u 77, u 78, u 79, u 80, u 81, u 82, u 83, u 84, u 85, u 86, u 87, u 88, u 89, u 90, u 91, u 92, u 93, u 94, u 95, u 96], defers := [] } ∧ w = more ((W.alloc (txt r L C)).alloc (.cells #[.int .i64 k0, .string b0, .complex .f64 x0 y0] 89)) s ∧ Scan l W r L C acc v s
/-- How much is still to be read. -/
def toRead (W : World) (w : World) : Nat := match w.cell? ⟨W.heap.size, 0, none⟩ with | some (.string b) => b.size | _ => 0
theorem AtZero.of {l : List UInt8} {W : World} {a : Act} {w : World} (r : List UInt8) (L C : Nat) (acc : List Tk) (s : Rest) (k0 : Int) (b0 : ByteArray) (x0 y0 : Nat) (v : Value)
    (ha : a = { tmps := #[.string (bsOf l), a.tmps.getD 1 undef, .slice none 0 0, .complex .f64 0 0, .int .i64 0, .pointer (some ⟨W.heap.size, 0, none⟩), v, .pointer (some ⟨W.heap.size + 1, 0, none⟩), a.tmps.getD 8 undef, a.tmps.getD 9 undef, a.tmps.getD 10 undef, a.tmps.getD 11 undef, a.tmps.getD 12 undef, a.tmps.getD 13 undef, a.tmps.getD 14 undef, a.tmps.getD 15 undef, a.tmps.getD 16 undef, a.tmps.getD 17 undef, a.tmps.getD 18 undef, a.tmps.getD 19 undef, a.tmps.getD 20 undef, a.tmps.getD 21 undef, a.tmps.getD 22 undef, a.tmps.getD 23 undef, a.tmps.getD 24 undef, a.tmps.getD 25 undef, a.tmps.getD 26 undef, a.tmps.getD 27 undef, a.tmps.getD 28 undef, a.tmps.getD 29 undef, a.tmps.getD 30 undef, a.tmps.getD 31 undef, a.tmps.getD 32 undef, a.tmps.getD 33 undef, a.tmps.getD 34 undef, a.tmps.getD 35 undef, a.tmps.getD 36 undef, a.tmps.getD 37 undef, a.tmps.getD 38 undef, a.tmps.getD 39 undef, a.tmps.getD 40 undef, a.tmps.getD 41 undef, a.tmps.getD 42 undef, a.tmps.getD 43 undef, a.tmps.getD 44 undef, a.tmps.getD 45 undef, a.tmps.getD 46 undef, a.tmps.getD 47 undef, a.tmps.getD 48 undef, a.tmps.getD 49 undef, a.tmps.getD 50 undef, a.tmps.getD 51 undef, a.tmps.getD 52 undef, a.tmps.getD 53 undef, a.tmps.getD 54 undef, a.tmps.getD 55 undef, a.tmps.getD 56 undef, a.tmps.getD 57 undef, a.tmps.getD 58 undef, a.tmps.getD 59 undef, a.tmps.getD 60 undef, a.tmps.getD 61 undef, a.tmps.getD 62 undef, a.tmps.getD 63 undef, a.tmps.getD 64 undef, a.tmps.getD 65 undef, a.tmps.getD 66 undef, a.tmps.getD 67 undef, a.tmps.getD 68 undef, a.tmps.getD 69 undef, a.tmps.getD 70 undef, a.tmps.getD 71 undef, a.tmps.getD 72 undef, a.tmps.getD 73 undef, a.tmps.getD 74 undef, a.tmps.getD 75 undef, a.tmps.getD 76 undef, a.tmps.getD 77 undef, a.tmps.getD 78 undef, a.tmps.getD 79 undef, a.tmps.getD 80 undef, a.tmps.getD 81 undef, a.tmps.getD 82 undef, a.tmps.getD 83 undef, a.tmps.getD 84 undef, a.tmps.getD 85 undef, a.tmps.getD 86 undef, a.tmps.getD 87 undef, a.tmps.getD 88 undef, a.tmps.getD 89 undef, a.tmps.getD 90 undef, a.tmps.getD 91 undef, a.tmps.getD 92 undef, a.tmps.getD 93 undef, a.tmps.getD 94 undef, a.tmps.getD 95 undef, a.tmps.getD 96 undef], defers := [] }) (hw : w = more ((W.alloc (txt r L C)).alloc (.cells #[.int .i64 k0, .string b0, .complex .f64 x0 y0] 89)) s) (hS : Scan l W r L C acc v s) : AtZero l W a w := ⟨r, L, C, acc, s, k0, b0, x0, y0, v, fun k => a.tmps.getD k undef, ha, hw, hS⟩
theorem toRead_any (W : World) (r : List UInt8) (x : Value) (o2 : Obj) (s : Rest) : toRead W (more ((W.alloc (.cells #[.string (bsOf r), x] 87)).alloc o2) s) = r.length := by
  unfold toRead
  rw [cell_more _ _ _ _ (by simp; omega), World.cell?_of_block (Below.heap_alloc _ _ _ (by simp))]
  simp only [World.cell?, heap_alloc_new]
  simp
theorem own_snoc {base : Nat} {s : Rest} {v : Value} {acc : List Tk} {t : Tk} (h : OwnS base s 89 3 v (acc.length + 1) (flatC tk3 acc ++ tk3 t)) : OwnS base s 89 3 v (acc ++ [t]).length (flatC tk3 (acc ++ [t])) := by
  rw [flatC_snoc, List.length_append]
  exact h
theorem alloc_rest (w : World) (r : Rest) (o : Obj) : (more w r).alloc o = more w (r.plus ⟨#[o], r.n⟩) := by unfold more World.alloc Rest.plus; simp
/-- The same, behind a block that the walk has laid. -/
theorem wpList_append_dec {P : Program} {W2 : World} {s : Rest} {ops : Array Oper} {rest : List Oper} {o : Oper} {a : Act} {Q : Exit → Act → World → Prop} {d : Obj}
    (hg : o.guard = none) (sl x : Operand) (t : TypeId) (hop : o.op = Op.call { callee := Callee.builtin Builtin.append, args := #[sl, x], argTypes := #[t, t] })
    (e : TypeId) (i : TypeInfo) (z : Value) (size bytes : Nat) (h1 : P.underlying t = some (.slice e)) (h2 : P.info? e = some i) (h3 : i.zero = some z) (h4 : i.size = size) (h5 : i.bytes = bytes) (h6 : z.cells.size = size) (h7 : 0 < size)
    (v : Value) (n : Nat) (xs : List Value) (base : Nat) (hb : base = W2.heap.size) (hs : a.eval sl = v) (hown : OwnS base s e size v n xs)
    (news : List Value) (c b : Nat) (hx : a.eval x = .slice (some ⟨b, 0, none⟩) 1 c) (hbx : b = W2.heap.size + s.len + 1) (hn : news.length = size) (h1c : ∀ u ∈ news, u.oneCell' = true)
    (b1 : n + 1 ≤ maxLen) (b2 : (n + 1) * bytes ≤ 140737488355328)
    (hK : ∀ v' s', OwnS base s' e size v' (n + 1) (xs ++ news) → wpList P ops Q rest (a.put o.dst v') (more W2 s')) :
    wpList P ops Q (o :: rest) a (((more W2 s).alloc d).alloc (.cells news.toArray e)) := by
  rw [alloc_rest]
  exact wpList_append_one hg sl x t hop e i z size bytes h1 h2 h3 h4 h5 h6 h7 v n xs base hb hs hown.plus news c b hx (by rw [hbx]; simp [Rest.len, Rest.plus]; omega) hn h1c b1 b2 hK
theorem row_of {W2 : World} {s : Rest} {base : Nat} {v : Value} {acc : List Tk} (h : OwnS base s 89 3 v acc.length (flatC tk3 acc)) (hb : W2.heap.size = base) : GRow tk3 3 (more W2 s) v acc := GRow.of_owns tk3_len (by decide) (h W2 hb)
theorem lexTold0 {l : List UInt8} {W w' : World} {v' : Value} {x : List Tk} {e : Nat} (hx : lexP l = ⟨x, 0, 0, e⟩) (hm : More W w') (hr : GRow tk3 3 w' v' x) :
    ∃ v'', Ending.returned (.tuple #[v', .complex .f64 0 0, .int .i64 e]) = .returned (.tuple #[v'', plV2 (lexP l).line (lexP l).col, .int .i64 (lexP l).err]) ∧ More W w' ∧ GRow tk3 3 w' v'' (lexP l).toks := by
  rw [hx]
  have h0 := nw_zero
  refine ⟨v', ?_, hm, hr⟩
  show _ = Ending.returned (.tuple #[v', .complex .f64 (nw 0) (nw 0), .int .i64 e])
  rw [h0]
theorem lexTold {l : List UInt8} {W w' : World} {L C e : Nat} (hx : lexP l = ⟨[], L, C, e⟩) (hm : More W w') :
    ∃ v'', Ending.returned (.tuple #[.slice none 0 0, .complex .f64 (nw L) (nw C), .int .i64 e]) = .returned (.tuple #[v'', plV2 (lexP l).line (lexP l).col, .int .i64 (lexP l).err]) ∧ More W w' ∧ GRow tk3 3 w' v'' (lexP l).toks := by
  rw [hx]
  exact ⟨_, rfl, hm, .inl ⟨rfl, rfl⟩⟩
theorem endUp_yes {acc : List Tk} {L C : Nat} (h : unended acc = true) : endUp acc L C = acc ++ [⟨3, [], L, C⟩] := by unfold endUp; rw [if_pos h]
theorem endUp_no {acc : List Tk} {L C : Nat} (h : unended acc = false) : endUp acc L C = acc := by unfold endUp; rw [if_neg (by rw [h]; simp)]

set_option maxHeartbeats 4000000 in
set_option maxRecDepth 100000 in
theorem tokens_c (l : List UInt8) (hz : l.length ≤ 9223372036854775807) (W : World) : Calls Tryz.prog 21 #[.string (bsOf l)] W fun e w' => ∃ v', e = .returned (.tuple #[v', plV2 (lexP l).line (lexP l).col, .int .i64 (lexP l).err]) ∧ More W w' ∧ GRow tk3 3 w' v' (lexP l).toks := by
  by_cases hl : l.length > 4000
  · have e : lexP l = ⟨[], 0, 0, 3⟩ := by unfold lexP; rw [if_pos hl]
    go_enter Tryz.func21, Tryz.ntmps21
    go_wp2_with (first | (go_at_call 42; (with_reducible refine (blank_c _ _).mono ?_); rintro e w' ⟨rfl, rfl⟩) | (go_at_call 44; (with_reducible refine (letter_c _ _).mono ?_); rintro e w' ⟨rfl, rfl⟩) | (go_at_call 45; (with_reducible refine (ldigit_c _ _).mono ?_); rintro e w' ⟨rfl, rfl⟩) | (go_at_call 46; (with_reducible refine (inWord_c _ _).mono ?_); rintro e w' ⟨rfl, rfl⟩) | (go_at_call 48; (with_reducible refine (inNumber_c _ _).mono ?_); rintro e w' ⟨rfl, rfl⟩) | (go_at_call 49; (with_reducible refine (read_c _ (by (try simp only [size_bs]); omega) _).mono ?_); rintro e w' ⟨rfl, r, rfl⟩) | (go_at_call 50; (with_reducible refine (inRemark_c _ _).mono ?_); rintro e w' ⟨rfl, rfl⟩) | ((with_reducible show Code.wp _ (Code.region 11 _ true) _ _ _); (with_reducible refine wp_more_quick_m (id := 11) ?_ ?_ ?_); kernel_rfl; kernel_rfl; (try simp only [List.take_succ_cons, List.take_zero, List.drop_succ_cons, List.drop_zero]); (repeat (any_goals (first | go_big_quiet_step (fail) | quiet_step (fail)))); (with_reducible refine wpQuiet_nil ?_); intro r) | ((with_reducible show Code.wp _ (Code.region 11 _ true) _ _ _); (with_reducible refine wp_more_quick (id := 11) ?_ ?_ ?_); kernel_rfl; kernel_rfl; (try simp only [List.take_succ_cons, List.take_zero, List.drop_succ_cons, List.drop_zero]); (repeat (any_goals (first | go_big_quiet_step (fail) | quiet_step (fail)))); (with_reducible refine wpQuiet_nil ?_); intro r) | ((with_reducible show Code.wp _ (Code.region 15 _ true) _ _ _); (with_reducible refine wp_more_quick_m (id := 15) ?_ ?_ ?_); kernel_rfl; kernel_rfl; (try simp only [List.take_succ_cons, List.take_zero, List.drop_succ_cons, List.drop_zero]); (repeat (any_goals (first | go_big_quiet_step (fail) | quiet_step (fail)))); (with_reducible refine wpQuiet_nil ?_); intro r) | ((with_reducible show Code.wp _ (Code.region 15 _ true) _ _ _); (with_reducible refine wp_more_quick (id := 15) ?_ ?_ ?_); kernel_rfl; kernel_rfl; (try simp only [List.take_succ_cons, List.take_zero, List.drop_succ_cons, List.drop_zero]); (repeat (any_goals (first | go_big_quiet_step (fail) | quiet_step (fail)))); (with_reducible refine wpQuiet_nil ?_); intro r) | ((with_reducible show Code.wp _ (Code.region 21 _ true) _ _ _); (with_reducible refine wp_more_quick_m (id := 21) ?_ ?_ ?_); kernel_rfl; kernel_rfl; (try simp only [List.take_succ_cons, List.take_zero, List.drop_succ_cons, List.drop_zero]); (repeat (any_goals (first | go_big_quiet_step (fail) | quiet_step (fail)))); (with_reducible refine wpQuiet_nil ?_); intro r) | ((with_reducible show Code.wp _ (Code.region 21 _ true) _ _ _); (with_reducible refine wp_more_quick (id := 21) ?_ ?_ ?_); kernel_rfl; kernel_rfl; (try simp only [List.take_succ_cons, List.take_zero, List.drop_succ_cons, List.drop_zero]); (repeat (any_goals (first | go_big_quiet_step (fail) | quiet_step (fail)))); (with_reducible refine wpQuiet_nil ?_); intro r))
    refine wp_scope_hub2 0 (fun _ _ => False) (fun _ _ => 0) rfl (fun _ _ _ h => h.elim) (fun _ => ?_)
    go_wp2_with (first | (go_at_call 42; (with_reducible refine (blank_c _ _).mono ?_); rintro e w' ⟨rfl, rfl⟩) | (go_at_call 44; (with_reducible refine (letter_c _ _).mono ?_); rintro e w' ⟨rfl, rfl⟩) | (go_at_call 45; (with_reducible refine (ldigit_c _ _).mono ?_); rintro e w' ⟨rfl, rfl⟩) | (go_at_call 46; (with_reducible refine (inWord_c _ _).mono ?_); rintro e w' ⟨rfl, rfl⟩) | (go_at_call 48; (with_reducible refine (inNumber_c _ _).mono ?_); rintro e w' ⟨rfl, rfl⟩) | (go_at_call 49; (with_reducible refine (read_c _ (by (try simp only [size_bs]); omega) _).mono ?_); rintro e w' ⟨rfl, r, rfl⟩) | (go_at_call 50; (with_reducible refine (inRemark_c _ _).mono ?_); rintro e w' ⟨rfl, rfl⟩) | ((with_reducible show Code.wp _ (Code.region 11 _ true) _ _ _); (with_reducible refine wp_more_quick_m (id := 11) ?_ ?_ ?_); kernel_rfl; kernel_rfl; (try simp only [List.take_succ_cons, List.take_zero, List.drop_succ_cons, List.drop_zero]); (repeat (any_goals (first | go_big_quiet_step (fail) | quiet_step (fail)))); (with_reducible refine wpQuiet_nil ?_); intro r) | ((with_reducible show Code.wp _ (Code.region 11 _ true) _ _ _); (with_reducible refine wp_more_quick (id := 11) ?_ ?_ ?_); kernel_rfl; kernel_rfl; (try simp only [List.take_succ_cons, List.take_zero, List.drop_succ_cons, List.drop_zero]); (repeat (any_goals (first | go_big_quiet_step (fail) | quiet_step (fail)))); (with_reducible refine wpQuiet_nil ?_); intro r) | ((with_reducible show Code.wp _ (Code.region 15 _ true) _ _ _); (with_reducible refine wp_more_quick_m (id := 15) ?_ ?_ ?_); kernel_rfl; kernel_rfl; (try simp only [List.take_succ_cons, List.take_zero, List.drop_succ_cons, List.drop_zero]); (repeat (any_goals (first | go_big_quiet_step (fail) | quiet_step (fail)))); (with_reducible refine wpQuiet_nil ?_); intro r) | ((with_reducible show Code.wp _ (Code.region 15 _ true) _ _ _); (with_reducible refine wp_more_quick (id := 15) ?_ ?_ ?_); kernel_rfl; kernel_rfl; (try simp only [List.take_succ_cons, List.take_zero, List.drop_succ_cons, List.drop_zero]); (repeat (any_goals (first | go_big_quiet_step (fail) | quiet_step (fail)))); (with_reducible refine wpQuiet_nil ?_); intro r) | ((with_reducible show Code.wp _ (Code.region 21 _ true) _ _ _); (with_reducible refine wp_more_quick_m (id := 21) ?_ ?_ ?_); kernel_rfl; kernel_rfl; (try simp only [List.take_succ_cons, List.take_zero, List.drop_succ_cons, List.drop_zero]); (repeat (any_goals (first | go_big_quiet_step (fail) | quiet_step (fail)))); (with_reducible refine wpQuiet_nil ?_); intro r) | ((with_reducible show Code.wp _ (Code.region 21 _ true) _ _ _); (with_reducible refine wp_more_quick (id := 21) ?_ ?_ ?_); kernel_rfl; kernel_rfl; (try simp only [List.take_succ_cons, List.take_zero, List.drop_succ_cons, List.drop_zero]); (repeat (any_goals (first | go_big_quiet_step (fail) | quiet_step (fail)))); (with_reducible refine wpQuiet_nil ?_); intro r))
    rw [Exit.hub_ret]
    go_returns
    exact lexTold0 e (More.refl _) (.inl ⟨rfl, rfl⟩)
  go_enter Tryz.func21, Tryz.ntmps21
  go_wp2_with (first | (go_at_call 42; (with_reducible refine (blank_c _ _).mono ?_); rintro e w' ⟨rfl, rfl⟩) | (go_at_call 44; (with_reducible refine (letter_c _ _).mono ?_); rintro e w' ⟨rfl, rfl⟩) | (go_at_call 45; (with_reducible refine (ldigit_c _ _).mono ?_); rintro e w' ⟨rfl, rfl⟩) | (go_at_call 46; (with_reducible refine (inWord_c _ _).mono ?_); rintro e w' ⟨rfl, rfl⟩) | (go_at_call 48; (with_reducible refine (inNumber_c _ _).mono ?_); rintro e w' ⟨rfl, rfl⟩) | (go_at_call 49; (with_reducible refine (read_c _ (by (try simp only [size_bs]); omega) _).mono ?_); rintro e w' ⟨rfl, r, rfl⟩) | (go_at_call 50; (with_reducible refine (inRemark_c _ _).mono ?_); rintro e w' ⟨rfl, rfl⟩) | ((with_reducible show Code.wp _ (Code.region 11 _ true) _ _ _); (with_reducible refine wp_more_quick_m (id := 11) ?_ ?_ ?_); kernel_rfl; kernel_rfl; (try simp only [List.take_succ_cons, List.take_zero, List.drop_succ_cons, List.drop_zero]); (repeat (any_goals (first | go_big_quiet_step (fail) | quiet_step (fail)))); (with_reducible refine wpQuiet_nil ?_); intro r) | ((with_reducible show Code.wp _ (Code.region 11 _ true) _ _ _); (with_reducible refine wp_more_quick (id := 11) ?_ ?_ ?_); kernel_rfl; kernel_rfl; (try simp only [List.take_succ_cons, List.take_zero, List.drop_succ_cons, List.drop_zero]); (repeat (any_goals (first | go_big_quiet_step (fail) | quiet_step (fail)))); (with_reducible refine wpQuiet_nil ?_); intro r) | ((with_reducible show Code.wp _ (Code.region 15 _ true) _ _ _); (with_reducible refine wp_more_quick_m (id := 15) ?_ ?_ ?_); kernel_rfl; kernel_rfl; (try simp only [List.take_succ_cons, List.take_zero, List.drop_succ_cons, List.drop_zero]); (repeat (any_goals (first | go_big_quiet_step (fail) | quiet_step (fail)))); (with_reducible refine wpQuiet_nil ?_); intro r) | ((with_reducible show Code.wp _ (Code.region 15 _ true) _ _ _); (with_reducible refine wp_more_quick (id := 15) ?_ ?_ ?_); kernel_rfl; kernel_rfl; (try simp only [List.take_succ_cons, List.take_zero, List.drop_succ_cons, List.drop_zero]); (repeat (any_goals (first | go_big_quiet_step (fail) | quiet_step (fail)))); (with_reducible refine wpQuiet_nil ?_); intro r) | ((with_reducible show Code.wp _ (Code.region 21 _ true) _ _ _); (with_reducible refine wp_more_quick_m (id := 21) ?_ ?_ ?_); kernel_rfl; kernel_rfl; (try simp only [List.take_succ_cons, List.take_zero, List.drop_succ_cons, List.drop_zero]); (repeat (any_goals (first | go_big_quiet_step (fail) | quiet_step (fail)))); (with_reducible refine wpQuiet_nil ?_); intro r) | ((with_reducible show Code.wp _ (Code.region 21 _ true) _ _ _); (with_reducible refine wp_more_quick (id := 21) ?_ ?_ ?_); kernel_rfl; kernel_rfl; (try simp only [List.take_succ_cons, List.take_zero, List.drop_succ_cons, List.drop_zero]); (repeat (any_goals (first | go_big_quiet_step (fail) | quiet_step (fail)))); (with_reducible refine wpQuiet_nil ?_); intro r))
  refine wp_scope_hub3 0 (AtZero l W) (fun _ w => toRead W w) rfl ?pass ?first
  case first =>
    intro hin
    refine wp_seq_hid ?_
    go_wp2_with (first | (go_at_call 42; (with_reducible refine (blank_c _ _).mono ?_); rintro e w' ⟨rfl, rfl⟩) | (go_at_call 44; (with_reducible refine (letter_c _ _).mono ?_); rintro e w' ⟨rfl, rfl⟩) | (go_at_call 45; (with_reducible refine (ldigit_c _ _).mono ?_); rintro e w' ⟨rfl, rfl⟩) | (go_at_call 46; (with_reducible refine (inWord_c _ _).mono ?_); rintro e w' ⟨rfl, rfl⟩) | (go_at_call 48; (with_reducible refine (inNumber_c _ _).mono ?_); rintro e w' ⟨rfl, rfl⟩) | (go_at_call 49; (with_reducible refine (read_c _ (by (try simp only [size_bs]); omega) _).mono ?_); rintro e w' ⟨rfl, r, rfl⟩) | (go_at_call 50; (with_reducible refine (inRemark_c _ _).mono ?_); rintro e w' ⟨rfl, rfl⟩) | ((with_reducible show Code.wp _ (Code.region 11 _ true) _ _ _); (with_reducible refine wp_more_quick_m (id := 11) ?_ ?_ ?_); kernel_rfl; kernel_rfl; (try simp only [List.take_succ_cons, List.take_zero, List.drop_succ_cons, List.drop_zero]); (repeat (any_goals (first | go_big_quiet_step (fail) | quiet_step (fail)))); (with_reducible refine wpQuiet_nil ?_); intro r) | ((with_reducible show Code.wp _ (Code.region 11 _ true) _ _ _); (with_reducible refine wp_more_quick (id := 11) ?_ ?_ ?_); kernel_rfl; kernel_rfl; (try simp only [List.take_succ_cons, List.take_zero, List.drop_succ_cons, List.drop_zero]); (repeat (any_goals (first | go_big_quiet_step (fail) | quiet_step (fail)))); (with_reducible refine wpQuiet_nil ?_); intro r) | ((with_reducible show Code.wp _ (Code.region 15 _ true) _ _ _); (with_reducible refine wp_more_quick_m (id := 15) ?_ ?_ ?_); kernel_rfl; kernel_rfl; (try simp only [List.take_succ_cons, List.take_zero, List.drop_succ_cons, List.drop_zero]); (repeat (any_goals (first | go_big_quiet_step (fail) | quiet_step (fail)))); (with_reducible refine wpQuiet_nil ?_); intro r) | ((with_reducible show Code.wp _ (Code.region 15 _ true) _ _ _); (with_reducible refine wp_more_quick (id := 15) ?_ ?_ ?_); kernel_rfl; kernel_rfl; (try simp only [List.take_succ_cons, List.take_zero, List.drop_succ_cons, List.drop_zero]); (repeat (any_goals (first | go_big_quiet_step (fail) | quiet_step (fail)))); (with_reducible refine wpQuiet_nil ?_); intro r) | ((with_reducible show Code.wp _ (Code.region 21 _ true) _ _ _); (with_reducible refine wp_more_quick_m (id := 21) ?_ ?_ ?_); kernel_rfl; kernel_rfl; (try simp only [List.take_succ_cons, List.take_zero, List.drop_succ_cons, List.drop_zero]); (repeat (any_goals (first | go_big_quiet_step (fail) | quiet_step (fail)))); (with_reducible refine wpQuiet_nil ?_); intro r) | ((with_reducible show Code.wp _ (Code.region 21 _ true) _ _ _); (with_reducible refine wp_more_quick (id := 21) ?_ ?_ ?_); kernel_rfl; kernel_rfl; (try simp only [List.take_succ_cons, List.take_zero, List.drop_succ_cons, List.drop_zero]); (repeat (any_goals (first | go_big_quiet_step (fail) | quiet_step (fail)))); (with_reducible refine wpQuiet_nil ?_); intro r))
    refine Lib.hid (wp_seq_hid ?_)
    go_wp2_with (first | (go_at_call 42; (with_reducible refine (blank_c _ _).mono ?_); rintro e w' ⟨rfl, rfl⟩) | (go_at_call 44; (with_reducible refine (letter_c _ _).mono ?_); rintro e w' ⟨rfl, rfl⟩) | (go_at_call 45; (with_reducible refine (ldigit_c _ _).mono ?_); rintro e w' ⟨rfl, rfl⟩) | (go_at_call 46; (with_reducible refine (inWord_c _ _).mono ?_); rintro e w' ⟨rfl, rfl⟩) | (go_at_call 48; (with_reducible refine (inNumber_c _ _).mono ?_); rintro e w' ⟨rfl, rfl⟩) | (go_at_call 49; (with_reducible refine (read_c _ (by (try simp only [size_bs]); omega) _).mono ?_); rintro e w' ⟨rfl, r, rfl⟩) | (go_at_call 50; (with_reducible refine (inRemark_c _ _).mono ?_); rintro e w' ⟨rfl, rfl⟩) | ((with_reducible show Code.wp _ (Code.region 11 _ true) _ _ _); (with_reducible refine wp_more_quick_m (id := 11) ?_ ?_ ?_); kernel_rfl; kernel_rfl; (try simp only [List.take_succ_cons, List.take_zero, List.drop_succ_cons, List.drop_zero]); (repeat (any_goals (first | go_big_quiet_step (fail) | quiet_step (fail)))); (with_reducible refine wpQuiet_nil ?_); intro r) | ((with_reducible show Code.wp _ (Code.region 11 _ true) _ _ _); (with_reducible refine wp_more_quick (id := 11) ?_ ?_ ?_); kernel_rfl; kernel_rfl; (try simp only [List.take_succ_cons, List.take_zero, List.drop_succ_cons, List.drop_zero]); (repeat (any_goals (first | go_big_quiet_step (fail) | quiet_step (fail)))); (with_reducible refine wpQuiet_nil ?_); intro r) | ((with_reducible show Code.wp _ (Code.region 15 _ true) _ _ _); (with_reducible refine wp_more_quick_m (id := 15) ?_ ?_ ?_); kernel_rfl; kernel_rfl; (try simp only [List.take_succ_cons, List.take_zero, List.drop_succ_cons, List.drop_zero]); (repeat (any_goals (first | go_big_quiet_step (fail) | quiet_step (fail)))); (with_reducible refine wpQuiet_nil ?_); intro r) | ((with_reducible show Code.wp _ (Code.region 15 _ true) _ _ _); (with_reducible refine wp_more_quick (id := 15) ?_ ?_ ?_); kernel_rfl; kernel_rfl; (try simp only [List.take_succ_cons, List.take_zero, List.drop_succ_cons, List.drop_zero]); (repeat (any_goals (first | go_big_quiet_step (fail) | quiet_step (fail)))); (with_reducible refine wpQuiet_nil ?_); intro r) | ((with_reducible show Code.wp _ (Code.region 21 _ true) _ _ _); (with_reducible refine wp_more_quick_m (id := 21) ?_ ?_ ?_); kernel_rfl; kernel_rfl; (try simp only [List.take_succ_cons, List.take_zero, List.drop_succ_cons, List.drop_zero]); (repeat (any_goals (first | go_big_quiet_step (fail) | quiet_step (fail)))); (with_reducible refine wpQuiet_nil ?_); intro r) | ((with_reducible show Code.wp _ (Code.region 21 _ true) _ _ _); (with_reducible refine wp_more_quick (id := 21) ?_ ?_ ?_); kernel_rfl; kernel_rfl; (try simp only [List.take_succ_cons, List.take_zero, List.drop_succ_cons, List.drop_zero]); (repeat (any_goals (first | go_big_quiet_step (fail) | quiet_step (fail)))); (with_reducible refine wpQuiet_nil ?_); intro r))
    refine Lib.hid (wp_seq_hid ?_)
    go_wp2_with (first | (go_at_call 42; (with_reducible refine (blank_c _ _).mono ?_); rintro e w' ⟨rfl, rfl⟩) | (go_at_call 44; (with_reducible refine (letter_c _ _).mono ?_); rintro e w' ⟨rfl, rfl⟩) | (go_at_call 45; (with_reducible refine (ldigit_c _ _).mono ?_); rintro e w' ⟨rfl, rfl⟩) | (go_at_call 46; (with_reducible refine (inWord_c _ _).mono ?_); rintro e w' ⟨rfl, rfl⟩) | (go_at_call 48; (with_reducible refine (inNumber_c _ _).mono ?_); rintro e w' ⟨rfl, rfl⟩) | (go_at_call 49; (with_reducible refine (read_c _ (by (try simp only [size_bs]); omega) _).mono ?_); rintro e w' ⟨rfl, r, rfl⟩) | (go_at_call 50; (with_reducible refine (inRemark_c _ _).mono ?_); rintro e w' ⟨rfl, rfl⟩) | ((with_reducible show Code.wp _ (Code.region 11 _ true) _ _ _); (with_reducible refine wp_more_quick_m (id := 11) ?_ ?_ ?_); kernel_rfl; kernel_rfl; (try simp only [List.take_succ_cons, List.take_zero, List.drop_succ_cons, List.drop_zero]); (repeat (any_goals (first | go_big_quiet_step (fail) | quiet_step (fail)))); (with_reducible refine wpQuiet_nil ?_); intro r) | ((with_reducible show Code.wp _ (Code.region 11 _ true) _ _ _); (with_reducible refine wp_more_quick (id := 11) ?_ ?_ ?_); kernel_rfl; kernel_rfl; (try simp only [List.take_succ_cons, List.take_zero, List.drop_succ_cons, List.drop_zero]); (repeat (any_goals (first | go_big_quiet_step (fail) | quiet_step (fail)))); (with_reducible refine wpQuiet_nil ?_); intro r) | ((with_reducible show Code.wp _ (Code.region 15 _ true) _ _ _); (with_reducible refine wp_more_quick_m (id := 15) ?_ ?_ ?_); kernel_rfl; kernel_rfl; (try simp only [List.take_succ_cons, List.take_zero, List.drop_succ_cons, List.drop_zero]); (repeat (any_goals (first | go_big_quiet_step (fail) | quiet_step (fail)))); (with_reducible refine wpQuiet_nil ?_); intro r) | ((with_reducible show Code.wp _ (Code.region 15 _ true) _ _ _); (with_reducible refine wp_more_quick (id := 15) ?_ ?_ ?_); kernel_rfl; kernel_rfl; (try simp only [List.take_succ_cons, List.take_zero, List.drop_succ_cons, List.drop_zero]); (repeat (any_goals (first | go_big_quiet_step (fail) | quiet_step (fail)))); (with_reducible refine wpQuiet_nil ?_); intro r) | ((with_reducible show Code.wp _ (Code.region 21 _ true) _ _ _); (with_reducible refine wp_more_quick_m (id := 21) ?_ ?_ ?_); kernel_rfl; kernel_rfl; (try simp only [List.take_succ_cons, List.take_zero, List.drop_succ_cons, List.drop_zero]); (repeat (any_goals (first | go_big_quiet_step (fail) | quiet_step (fail)))); (with_reducible refine wpQuiet_nil ?_); intro r) | ((with_reducible show Code.wp _ (Code.region 21 _ true) _ _ _); (with_reducible refine wp_more_quick (id := 21) ?_ ?_ ?_); kernel_rfl; kernel_rfl; (try simp only [List.take_succ_cons, List.take_zero, List.drop_succ_cons, List.drop_zero]); (repeat (any_goals (first | go_big_quiet_step (fail) | quiet_step (fail)))); (with_reducible refine wpQuiet_nil ?_); intro r))
    refine Lib.hid (wp_seq_hid ?_)
    go_wp2_with (first | (go_at_call 42; (with_reducible refine (blank_c _ _).mono ?_); rintro e w' ⟨rfl, rfl⟩) | (go_at_call 44; (with_reducible refine (letter_c _ _).mono ?_); rintro e w' ⟨rfl, rfl⟩) | (go_at_call 45; (with_reducible refine (ldigit_c _ _).mono ?_); rintro e w' ⟨rfl, rfl⟩) | (go_at_call 46; (with_reducible refine (inWord_c _ _).mono ?_); rintro e w' ⟨rfl, rfl⟩) | (go_at_call 48; (with_reducible refine (inNumber_c _ _).mono ?_); rintro e w' ⟨rfl, rfl⟩) | (go_at_call 49; (with_reducible refine (read_c _ (by (try simp only [size_bs]); omega) _).mono ?_); rintro e w' ⟨rfl, r, rfl⟩) | (go_at_call 50; (with_reducible refine (inRemark_c _ _).mono ?_); rintro e w' ⟨rfl, rfl⟩) | ((with_reducible show Code.wp _ (Code.region 11 _ true) _ _ _); (with_reducible refine wp_more_quick_m (id := 11) ?_ ?_ ?_); kernel_rfl; kernel_rfl; (try simp only [List.take_succ_cons, List.take_zero, List.drop_succ_cons, List.drop_zero]); (repeat (any_goals (first | go_big_quiet_step (fail) | quiet_step (fail)))); (with_reducible refine wpQuiet_nil ?_); intro r) | ((with_reducible show Code.wp _ (Code.region 11 _ true) _ _ _); (with_reducible refine wp_more_quick (id := 11) ?_ ?_ ?_); kernel_rfl; kernel_rfl; (try simp only [List.take_succ_cons, List.take_zero, List.drop_succ_cons, List.drop_zero]); (repeat (any_goals (first | go_big_quiet_step (fail) | quiet_step (fail)))); (with_reducible refine wpQuiet_nil ?_); intro r) | ((with_reducible show Code.wp _ (Code.region 15 _ true) _ _ _); (with_reducible refine wp_more_quick_m (id := 15) ?_ ?_ ?_); kernel_rfl; kernel_rfl; (try simp only [List.take_succ_cons, List.take_zero, List.drop_succ_cons, List.drop_zero]); (repeat (any_goals (first | go_big_quiet_step (fail) | quiet_step (fail)))); (with_reducible refine wpQuiet_nil ?_); intro r) | ((with_reducible show Code.wp _ (Code.region 15 _ true) _ _ _); (with_reducible refine wp_more_quick (id := 15) ?_ ?_ ?_); kernel_rfl; kernel_rfl; (try simp only [List.take_succ_cons, List.take_zero, List.drop_succ_cons, List.drop_zero]); (repeat (any_goals (first | go_big_quiet_step (fail) | quiet_step (fail)))); (with_reducible refine wpQuiet_nil ?_); intro r) | ((with_reducible show Code.wp _ (Code.region 21 _ true) _ _ _); (with_reducible refine wp_more_quick_m (id := 21) ?_ ?_ ?_); kernel_rfl; kernel_rfl; (try simp only [List.take_succ_cons, List.take_zero, List.drop_succ_cons, List.drop_zero]); (repeat (any_goals (first | go_big_quiet_step (fail) | quiet_step (fail)))); (with_reducible refine wpQuiet_nil ?_); intro r) | ((with_reducible show Code.wp _ (Code.region 21 _ true) _ _ _); (with_reducible refine wp_more_quick (id := 21) ?_ ?_ ?_); kernel_rfl; kernel_rfl; (try simp only [List.take_succ_cons, List.take_zero, List.drop_succ_cons, List.drop_zero]); (repeat (any_goals (first | go_big_quiet_step (fail) | quiet_step (fail)))); (with_reducible refine wpQuiet_nil ?_); intro r))
    refine Lib.hid (wp_seq (wp_label (hin _ _ ?_)))
    rw [nw_one]
    exact AtZero.of l 1 1 [] _ 0 ⟨#[]⟩ 0 0 (.slice none 0 0) rfl (more_self _).symm ⟨OwnS.nil _ _ _ _, ⟨_, Nat.lt_succ_self _, by unfold lexP; rw [if_neg hl]⟩, by omega, by omega, by simp; omega⟩
  case pass =>
    rintro E E' a w ⟨r, L, C, acc, s, k0, b0, x0, y0, v, u, rfl, rfl, hS⟩ HJ HR HG
    obtain ⟨hO, ⟨n, hn, hx⟩, hL, hC, hA⟩ := hS
    obtain ⟨i0, hi, hz0, hz1, hz2⟩ := info_parts info_t3
    obtain ⟨n, rfl⟩ : ∃ m, n = m + 1 := ⟨n - 1, by omega⟩
    rw [lexF_blanks] at hx
    have hlen := take_drop isBl r
    have hbl := List.head?_dropWhile_not isBl r
    obtain ⟨D, hD⟩ : ∃ D, C + (r.takeWhile isBl).length = D := ⟨_, rfl⟩
    obtain ⟨q, hq⟩ : ∃ q, r.dropWhile isBl = q := ⟨_, rfl⟩
    rw [hD, hq] at hx
    rw [hq] at hlen hbl
    have hDq : D + q.length ≤ 4001 := by omega
    have hql : q.length ≤ r.length := by omega
    clear hlen
    have HO := Lib.hid hO
    have HX := hx
    clear hO hx
    have HN := Lib.hid hn
    clear hn
    cases q with
    | nil =>
      clear hbl
      rw [lexF_nil] at HX
      have hLA := line_add (P := Tryz.prog) L (by omega)
      cases hu : unended acc with
      | false =>
        rw [endUp_no hu] at HX
        go_wp2_with (first | (go_at_call 41; (with_reducible refine Calls.mono (take_bl _ _ _ _ _ _ (by first | omega | (simp only [List.length_cons]; omega)) (by omega) (by omega)) ?_); rintro e w' ⟨rfl, r1, rfl⟩) | (go_at_call 43; (with_reducible refine Calls.mono (ended_nil _ _ _ _ _) ?_); rintro e w' ⟨rfl, rfl⟩))
        go_step3
        refine HG.out _ _ _ _ rfl ?_
        go_wp2_with (first | (go_at_call 51; (with_reducible refine Calls.mono (unended_s (base := W.heap.size + 2) (acc := acc) _ (by simp) (by omega) (by repeat (first | exact HO.out | with_reducible apply OwnS.plus | with_reducible apply OwnS.draw))) ?_); rintro e w' ⟨rfl, rfl⟩))
        refine (HR.out _ _ ?_).2
        go_returns
        exact lexTold0 HX.symm (by repeat (first | exact More.refl _ | refine More.alloc ?_ _ | refine More.more ?_ _ | refine More.drew ?_ | refine More.drewN ?_ _)) (row_of (base := W.heap.size + 2) (by repeat (first | exact HO.out | with_reducible apply OwnS.plus | with_reducible apply OwnS.draw)) (by simp))
      | true =>
        rw [endUp_yes hu] at HX
        go_wp2_with (first | (go_at_call 41; (with_reducible refine Calls.mono (take_bl _ _ _ _ _ _ (by first | omega | (simp only [List.length_cons]; omega)) (by omega) (by omega)) ?_); rintro e w' ⟨rfl, r1, rfl⟩) | (go_at_call 43; (with_reducible refine Calls.mono (ended_nil _ _ _ _ _) ?_); rintro e w' ⟨rfl, rfl⟩))
        go_step3
        refine HG.out _ _ _ _ rfl ?_
        go_wp2_with (first | (go_at_call 51; (with_reducible refine Calls.mono (unended_s (base := W.heap.size + 2) (acc := acc) _ (by simp) (by omega) (by repeat (first | exact HO.out | with_reducible apply OwnS.plus | with_reducible apply OwnS.draw))) ?_); rintro e w' ⟨rfl, rfl⟩) | (at_builtin; refine wpList_append_one rfl (.tmp 80) (.tmp 84) 62 rfl 89 i0 _ 3 40 und_t3 hi hz0 hz1 hz2 rfl (by decide) _ acc.length (flatC tk3 acc) (W.heap.size + 2) (by simp) rfl (by repeat (first | exact HO.out | with_reducible apply OwnS.plus | with_reducible apply OwnS.draw)) (tk3 ⟨3, [], L, _⟩) 1 _ rfl (by simp; omega) rfl (tk3_one _) (by simp only [maxLen]; omega) (by omega) ?_; intro v2 s2 hown2; have HO2 := Lib.hid (own_snoc hown2); clear hown2))
        refine (HR.out _ _ ?_).2
        go_returns
        exact lexTold0 HX.symm (by repeat (first | exact More.refl _ | refine More.alloc ?_ _ | refine More.more ?_ _ | refine More.drew ?_ | refine More.drewN ?_ _)) (row_of (base := W.heap.size + 2) (by repeat (first | exact HO2.out | with_reducible apply OwnS.plus | with_reducible apply OwnS.draw)) (by simp))
    | cons c q =>
      have hcb : isBl c = false := by simpa using hbl
      clear hbl
      simp only [List.length_cons] at hDq hql
      have b35 := byte_at0 c q 35 (by omega)
      have b45 := byte_at0 c q 45 (by omega)
      have bL := isLz_at (c :: q) 0
      have bD := isDz_at (c :: q) 0
      simp only [List.getD_cons_zero] at bL bD
      by_cases c10 : c = 10
      · subst c10
        clear b35 b45 bL bD hcb
        rw [lexF_line] at HX
        have hLA := line_add (P := Tryz.prog) L (by omega)
        cases hu : unended acc with
        | false =>
          rw [endUp_no hu] at HX
          go_wp2_with (first | (go_at_call 41; (with_reducible refine Calls.mono (take_bl _ _ _ _ _ _ (by first | omega | (simp only [List.length_cons]; omega)) (by omega) (by omega)) ?_); rintro e w' ⟨rfl, r1, rfl⟩) | (go_at_call 43; (with_reducible refine Calls.mono (ended_lf _ _ _ _ _ _ (by omega)) ?_); rintro e w' ⟨rfl, rfl⟩))
          go_step3
          refine HG.out _ _ _ _ rfl ?_
          go_wp2_with (first | (go_at_call 51; (with_reducible refine Calls.mono (unended_s (base := W.heap.size + 2) (acc := acc) _ (by simp) (by omega) (by repeat (first | exact HO.out | with_reducible apply OwnS.plus | with_reducible apply OwnS.draw))) ?_); rintro e w' ⟨rfl, rfl⟩) | (go_at_call 47; (with_reducible refine Calls.mono (pass_1 _ _ _ _ _ _ _ (by omega) (by omega) (by omega)) ?_); rintro e w' ⟨rfl, r1, rfl⟩))
          go_step3
          refine (HJ.out _ _ ?_ ?_).2
          · rw [nw_one]
            exact AtZero.of q (L + 1) 1 _ _ _ _ _ _ _ rfl rfl ⟨(by repeat (first | exact HO.out | with_reducible apply OwnS.plus | with_reducible apply OwnS.draw)), ⟨n, by have := HN.out; omega, HX⟩, by omega, by omega, by first | omega | (simp; omega)⟩
          · rw [toRead_any, toRead_any]
            omega
        | true =>
          rw [endUp_yes hu] at HX
          go_wp2_with (first | (go_at_call 41; (with_reducible refine Calls.mono (take_bl _ _ _ _ _ _ (by first | omega | (simp only [List.length_cons]; omega)) (by omega) (by omega)) ?_); rintro e w' ⟨rfl, r1, rfl⟩) | (go_at_call 43; (with_reducible refine Calls.mono (ended_lf _ _ _ _ _ _ (by omega)) ?_); rintro e w' ⟨rfl, rfl⟩))
          go_step3
          refine HG.out _ _ _ _ rfl ?_
          go_wp2_with (first | (go_at_call 51; (with_reducible refine Calls.mono (unended_s (base := W.heap.size + 2) (acc := acc) _ (by simp) (by omega) (by repeat (first | exact HO.out | with_reducible apply OwnS.plus | with_reducible apply OwnS.draw))) ?_); rintro e w' ⟨rfl, rfl⟩) | (at_builtin; refine wpList_append_one rfl (.tmp 80) (.tmp 84) 62 rfl 89 i0 _ 3 40 und_t3 hi hz0 hz1 hz2 rfl (by decide) _ acc.length (flatC tk3 acc) (W.heap.size + 2) (by simp) rfl (by repeat (first | exact HO.out | with_reducible apply OwnS.plus | with_reducible apply OwnS.draw)) (tk3 ⟨3, [], L, _⟩) 1 _ rfl (by simp; omega) rfl (tk3_one _) (by simp only [maxLen]; omega) (by omega) ?_; intro v2 s2 hown2; have HO2 := Lib.hid (own_snoc hown2); clear hown2) | (go_at_call 47; (with_reducible refine Calls.mono (pass_1 _ _ _ _ _ _ _ (by omega) (by omega) (by omega)) ?_); rintro e w' ⟨rfl, r1, rfl⟩))
          go_step3
          refine (HJ.out _ _ ?_ ?_).2
          · rw [nw_one]
            exact AtZero.of q (L + 1) 1 _ _ _ _ _ _ _ rfl rfl ⟨(by repeat (first | exact HO2.out | with_reducible apply OwnS.plus | with_reducible apply OwnS.draw)), ⟨n, by have := HN.out; omega, HX⟩, by omega, by omega, by first | omega | (simp; omega)⟩
          · rw [toRead_any, toRead_any]
            omega
      by_cases c35 : c = 35
      · subst c35
        clear b35 b45 bL bD hcb
        rw [lexF_remark] at HX
        have hlen := take_drop isRm (35 :: q)
        have hrm := List.head?_dropWhile_not isRm (35 :: q)
        obtain ⟨D2, hD2⟩ : ∃ D2, D + ((35 :: q).takeWhile isRm).length = D2 := ⟨_, rfl⟩
        obtain ⟨z, hz3⟩ : ∃ z, (35 :: q).dropWhile isRm = z := ⟨_, rfl⟩
        rw [hD2, hz3] at HX
        rw [hz3] at hlen hrm
        rw [List.length_cons] at hlen
        have hDz : D2 + z.length ≤ 4001 := by omega
        have hzl : z.length ≤ r.length := by omega
        have hzz : z.length ≤ 4000 := by omega
        have f35 : (byteAt (35 :: q) 0 == 35) = true := by
          have := byte_at0 35 q 35 (by omega)
          rw [show ((35 : Nat) : Int) = 35 from rfl] at this
          rw [this]
          rfl
        clear hlen
        cases z with
        | nil =>
          clear hrm
          rw [lexF_nil] at HX
          have hLA := line_add (P := Tryz.prog) L (by omega)
          cases hu : unended acc with
          | false =>
            rw [endUp_no hu] at HX
            go_wp2_with (first | (go_at_call 41; (with_reducible refine Calls.mono (take_bl _ _ _ _ _ _ (by first | omega | (simp only [List.length_cons]; omega)) (by omega) (by omega)) ?_); rintro e w' ⟨rfl, r1, rfl⟩) | (go_at_call 43; (with_reducible refine Calls.mono (ended_no _ _ _ _ _ _ _ (by omega) c10) ?_); rintro e w' ⟨rfl, rfl⟩))
            go_step3
            refine HG.out _ _ _ _ rfl ?_
            go_wp2_with (first | (go_at_call 41; (with_reducible refine Calls.mono (take_rm _ _ _ _ _ _ (by first | omega | (simp only [List.length_cons]; omega)) (by omega) (by omega)) ?_); rintro e w' ⟨rfl, r1, rfl⟩))
            go_step3
            go_wp2_with (first | (go_at_call 51; (with_reducible refine Calls.mono (unended_s (base := W.heap.size + 2) (acc := acc) _ (by simp) (by omega) (by repeat (first | exact HO.out | with_reducible apply OwnS.plus | with_reducible apply OwnS.draw))) ?_); rintro e w' ⟨rfl, rfl⟩))
            refine (HR.out _ _ ?_).2
            go_returns
            exact lexTold0 HX.symm (by repeat (first | exact More.refl _ | refine More.alloc ?_ _ | refine More.more ?_ _ | refine More.drew ?_ | refine More.drewN ?_ _)) (row_of (base := W.heap.size + 2) (by repeat (first | exact HO.out | with_reducible apply OwnS.plus | with_reducible apply OwnS.draw)) (by simp))
          | true =>
            rw [endUp_yes hu] at HX
            go_wp2_with (first | (go_at_call 41; (with_reducible refine Calls.mono (take_bl _ _ _ _ _ _ (by first | omega | (simp only [List.length_cons]; omega)) (by omega) (by omega)) ?_); rintro e w' ⟨rfl, r1, rfl⟩) | (go_at_call 43; (with_reducible refine Calls.mono (ended_no _ _ _ _ _ _ _ (by omega) c10) ?_); rintro e w' ⟨rfl, rfl⟩))
            go_step3
            refine HG.out _ _ _ _ rfl ?_
            go_wp2_with (first | (go_at_call 41; (with_reducible refine Calls.mono (take_rm _ _ _ _ _ _ (by first | omega | (simp only [List.length_cons]; omega)) (by omega) (by omega)) ?_); rintro e w' ⟨rfl, r1, rfl⟩))
            go_step3
            go_wp2_with (first | (go_at_call 51; (with_reducible refine Calls.mono (unended_s (base := W.heap.size + 2) (acc := acc) _ (by simp) (by omega) (by repeat (first | exact HO.out | with_reducible apply OwnS.plus | with_reducible apply OwnS.draw))) ?_); rintro e w' ⟨rfl, rfl⟩) | (at_builtin; refine wpList_append_one rfl (.tmp 80) (.tmp 84) 62 rfl 89 i0 _ 3 40 und_t3 hi hz0 hz1 hz2 rfl (by decide) _ acc.length (flatC tk3 acc) (W.heap.size + 2) (by simp) rfl (by repeat (first | exact HO.out | with_reducible apply OwnS.plus | with_reducible apply OwnS.draw)) (tk3 ⟨3, [], L, _⟩) 1 _ rfl (by simp; omega) rfl (tk3_one _) (by simp only [maxLen]; omega) (by omega) ?_; intro v2 s2 hown2; have HO2 := Lib.hid (own_snoc hown2); clear hown2))
            refine (HR.out _ _ ?_).2
            go_returns
            exact lexTold0 HX.symm (by repeat (first | exact More.refl _ | refine More.alloc ?_ _ | refine More.more ?_ _ | refine More.drew ?_ | refine More.drewN ?_ _)) (row_of (base := W.heap.size + 2) (by repeat (first | exact HO2.out | with_reducible apply OwnS.plus | with_reducible apply OwnS.draw)) (by simp))
        | cons y q2 =>
          have hy : y = 10 := by simpa [isRm] using hrm
          subst hy
          clear hrm
          simp only [List.length_cons] at hDz hzl hzz
          rw [lexF_line] at HX
          have hLA := line_add (P := Tryz.prog) L (by omega)
          cases hu : unended acc with
          | false =>
            rw [endUp_no hu] at HX
            go_wp2_with (first | (go_at_call 41; (with_reducible refine Calls.mono (take_bl _ _ _ _ _ _ (by first | omega | (simp only [List.length_cons]; omega)) (by omega) (by omega)) ?_); rintro e w' ⟨rfl, r1, rfl⟩) | (go_at_call 43; (with_reducible refine Calls.mono (ended_no _ _ _ _ _ _ _ (by omega) c10) ?_); rintro e w' ⟨rfl, rfl⟩))
            go_step3
            refine HG.out _ _ _ _ rfl ?_
            go_wp2_with (first | (go_at_call 41; (with_reducible refine Calls.mono (take_rm _ _ _ _ _ _ (by first | omega | (simp only [List.length_cons]; omega)) (by omega) (by omega)) ?_); rintro e w' ⟨rfl, r1, rfl⟩))
            go_step3
            go_wp2_with (first | (go_at_call 51; (with_reducible refine Calls.mono (unended_s (base := W.heap.size + 2) (acc := acc) _ (by simp) (by omega) (by repeat (first | exact HO.out | with_reducible apply OwnS.plus | with_reducible apply OwnS.draw))) ?_); rintro e w' ⟨rfl, rfl⟩) | (go_at_call 47; (with_reducible refine Calls.mono (pass_1 _ _ _ _ _ _ _ (by omega) (by omega) (by omega)) ?_); rintro e w' ⟨rfl, r1, rfl⟩))
            go_step3
            refine (HJ.out _ _ ?_ ?_).2
            · rw [nw_one]
              exact AtZero.of q2 (L + 1) 1 _ _ _ _ _ _ _ rfl rfl ⟨(by repeat (first | exact HO.out | with_reducible apply OwnS.plus | with_reducible apply OwnS.draw)), ⟨n, by have := HN.out; omega, HX⟩, by omega, by omega, by first | omega | (simp; omega)⟩
            · rw [toRead_any, toRead_any]
              omega
          | true =>
            rw [endUp_yes hu] at HX
            go_wp2_with (first | (go_at_call 41; (with_reducible refine Calls.mono (take_bl _ _ _ _ _ _ (by first | omega | (simp only [List.length_cons]; omega)) (by omega) (by omega)) ?_); rintro e w' ⟨rfl, r1, rfl⟩) | (go_at_call 43; (with_reducible refine Calls.mono (ended_no _ _ _ _ _ _ _ (by omega) c10) ?_); rintro e w' ⟨rfl, rfl⟩))
            go_step3
            refine HG.out _ _ _ _ rfl ?_
            go_wp2_with (first | (go_at_call 41; (with_reducible refine Calls.mono (take_rm _ _ _ _ _ _ (by first | omega | (simp only [List.length_cons]; omega)) (by omega) (by omega)) ?_); rintro e w' ⟨rfl, r1, rfl⟩))
            go_step3
            go_wp2_with (first | (go_at_call 51; (with_reducible refine Calls.mono (unended_s (base := W.heap.size + 2) (acc := acc) _ (by simp) (by omega) (by repeat (first | exact HO.out | with_reducible apply OwnS.plus | with_reducible apply OwnS.draw))) ?_); rintro e w' ⟨rfl, rfl⟩) | (at_builtin; refine wpList_append_one rfl (.tmp 80) (.tmp 84) 62 rfl 89 i0 _ 3 40 und_t3 hi hz0 hz1 hz2 rfl (by decide) _ acc.length (flatC tk3 acc) (W.heap.size + 2) (by simp) rfl (by repeat (first | exact HO.out | with_reducible apply OwnS.plus | with_reducible apply OwnS.draw)) (tk3 ⟨3, [], L, _⟩) 1 _ rfl (by simp; omega) rfl (tk3_one _) (by simp only [maxLen]; omega) (by omega) ?_; intro v2 s2 hown2; have HO2 := Lib.hid (own_snoc hown2); clear hown2) | (go_at_call 47; (with_reducible refine Calls.mono (pass_1 _ _ _ _ _ _ _ (by omega) (by omega) (by omega)) ?_); rintro e w' ⟨rfl, r1, rfl⟩))
            go_step3
            refine (HJ.out _ _ ?_ ?_).2
            · rw [nw_one]
              exact AtZero.of q2 (L + 1) 1 _ _ _ _ _ _ _ rfl rfl ⟨(by repeat (first | exact HO2.out | with_reducible apply OwnS.plus | with_reducible apply OwnS.draw)), ⟨n, by have := HN.out; omega, HX⟩, by omega, by omega, by first | omega | (simp; omega)⟩
            · rw [toRead_any, toRead_any]
              omega
      have f35 : (byteAt (c :: q) 0 == 35) = false := by
        have : (c == UInt8.ofNat 35) = false := by simpa using c35
        rw [this] at b35
        exact b35
      clear b35
      cases hc : isLet c with
      | true =>
        rw [lexF_word hc] at HX
        have hw := take_drop isW (c :: q)
        rw [List.length_cons] at hw
        have hwd : ((c :: q).dropWhile isW).length ≤ q.length := by rw [(word_drop hc).1]; exact drop_le _ _
        obtain ⟨t, ht⟩ : ∃ t, (c :: q).takeWhile isW = t := ⟨_, rfl⟩
        obtain ⟨z, hz⟩ : ∃ z, (c :: q).dropWhile isW = z := ⟨_, rfl⟩
        rw [ht, hz] at HX hw
        rw [hz] at hwd
        by_cases h20 : t.length > 20
        · rw [if_pos h20] at HX
          go_wp2_with (first | (go_at_call 41; (with_reducible refine Calls.mono (take_bl _ _ _ _ _ _ (by first | omega | (simp only [List.length_cons]; omega)) (by omega) (by omega)) ?_); rintro e w' ⟨rfl, r1, rfl⟩) | (go_at_call 43; (with_reducible refine Calls.mono (ended_no _ _ _ _ _ _ _ (by omega) c10) ?_); rintro e w' ⟨rfl, rfl⟩) | (first | (go_at_call 44; (with_reducible refine (letter_c _ _).mono ?_); rintro e w' ⟨rfl, rfl⟩) | (go_at_call 45; (with_reducible refine (ldigit_c _ _).mono ?_); rintro e w' ⟨rfl, rfl⟩)))
          go_step3
          refine HG.out _ _ _ _ rfl ?_
          go_wp2_with (first | (go_at_call 41; (with_reducible refine Calls.mono (take_w _ _ _ _ _ _ (by first | omega | (simp only [List.length_cons]; omega)) (by omega) (by omega)) ?_); rintro e w' ⟨rfl, r1, rfl⟩) | (first | ((with_reducible show Code.wp _ (Code.region 15 _ true) _ _ _); (with_reducible refine wp_more_quick_m (id := 15) ?_ ?_ ?_); kernel_rfl; kernel_rfl; (try simp only [List.take_succ_cons, List.take_zero, List.drop_succ_cons, List.drop_zero]); (repeat (any_goals (first | go_big_quiet_step (fail) | quiet_step (fail)))); (with_reducible refine wpQuiet_nil ?_); intro r) | ((with_reducible show Code.wp _ (Code.region 15 _ true) _ _ _); (with_reducible refine wp_more_quick (id := 15) ?_ ?_ ?_); kernel_rfl; kernel_rfl; (try simp only [List.take_succ_cons, List.take_zero, List.drop_succ_cons, List.drop_zero]); (repeat (any_goals (first | go_big_quiet_step (fail) | quiet_step (fail)))); (with_reducible refine wpQuiet_nil ?_); intro r)))
          refine (HR.out _ _ ?_).2
          go_returns
          exact lexTold HX.symm (by repeat (first | exact More.refl _ | refine More.alloc ?_ _ | refine More.more ?_ _ | refine More.drew ?_ | refine More.drewN ?_ _))
        rw [if_neg h20] at HX
        go_wp2_with (first | (go_at_call 41; (with_reducible refine Calls.mono (take_bl _ _ _ _ _ _ (by first | omega | (simp only [List.length_cons]; omega)) (by omega) (by omega)) ?_); rintro e w' ⟨rfl, r1, rfl⟩) | (go_at_call 43; (with_reducible refine Calls.mono (ended_no _ _ _ _ _ _ _ (by omega) c10) ?_); rintro e w' ⟨rfl, rfl⟩) | (first | (go_at_call 44; (with_reducible refine (letter_c _ _).mono ?_); rintro e w' ⟨rfl, rfl⟩) | (go_at_call 45; (with_reducible refine (ldigit_c _ _).mono ?_); rintro e w' ⟨rfl, rfl⟩)))
        go_step3
        refine HG.out _ _ _ _ rfl ?_
        go_wp2_with (first | (go_at_call 41; (with_reducible refine Calls.mono (take_w _ _ _ _ _ _ (by first | omega | (simp only [List.length_cons]; omega)) (by omega) (by omega)) ?_); rintro e w' ⟨rfl, r1, rfl⟩) | (at_builtin; refine wpList_append_one rfl (.tmp 52) (.tmp 54) 62 rfl 89 i0 _ 3 40 und_t3 hi hz0 hz1 hz2 rfl (by decide) _ acc.length (flatC tk3 acc) (W.heap.size + 2) (by simp) rfl (by repeat (first | exact HO.out | with_reducible apply OwnS.plus | with_reducible apply OwnS.draw)) (tk3 ⟨1, t, L, D⟩) 1 _ rfl (by simp; omega) rfl (tk3_one _) (by simp only [maxLen]; omega) (by omega) ?_; intro v2 s2 hown2; have HO2 := Lib.hid (own_snoc hown2); clear hown2))
        go_step3
        refine (HJ.out _ _ ?_ ?_).2
        · exact AtZero.of z L (D + t.length) (acc ++ [⟨1, t, L, D⟩]) _ _ _ _ _ _ rfl rfl ⟨(by repeat (first | exact HO2.out | with_reducible apply OwnS.plus | with_reducible apply OwnS.draw)), ⟨n, by have := HN.out; omega, HX⟩, by omega, by omega, by simp; omega⟩
        · rw [toRead_any, toRead_any]
          omega
      | false =>
        by_cases c45 : c = 45
        · subst c45
          have hnm : (45 : UInt8) = 45 ∨ isD 45 = true := .inl rfl
          have f45 : (byteAt (45 :: q) 0 == 45) = true := by
            have := byte_at0 45 q 45 (by omega)
            rw [show ((45 : Nat) : Int) = 45 from rfl] at this
            rw [this]
            rfl
          clear b45
          rw [lexF_number hnm] at HX
          have hm := take_drop isNm q
          obtain ⟨t, ht⟩ : ∃ t, q.takeWhile isNm = t := ⟨_, rfl⟩
          obtain ⟨z, hz⟩ : ∃ z, q.dropWhile isNm = z := ⟨_, rfl⟩
          rw [ht, hz] at HX hm
          obtain ⟨ok, hok⟩ : ∃ b, (readP (45 :: t)).2 = b := ⟨_, rfl⟩
          rw [hok] at HX
          cases ok with
          | false =>
            rw [if_neg (by simp)] at HX
            go_wp2_with (first | (go_at_call 41; (with_reducible refine Calls.mono (take_bl _ _ _ _ _ _ (by first | omega | (simp only [List.length_cons]; omega)) (by omega) (by omega)) ?_); rintro e w' ⟨rfl, r1, rfl⟩) | (go_at_call 43; (with_reducible refine Calls.mono (ended_no _ _ _ _ _ _ _ (by omega) c10) ?_); rintro e w' ⟨rfl, rfl⟩) | (first | (go_at_call 44; (with_reducible refine (letter_c _ _).mono ?_); rintro e w' ⟨rfl, rfl⟩) | (go_at_call 45; (with_reducible refine (ldigit_c _ _).mono ?_); rintro e w' ⟨rfl, rfl⟩)))
            go_step3
            refine HG.out _ _ _ _ rfl ?_
            go_wp2_with (first | (go_at_call 47; (with_reducible refine Calls.mono (pass_1 _ _ _ _ _ _ _ (by omega) (by omega) (by omega)) ?_); rintro e w' ⟨rfl, r1, rfl⟩) | (go_at_call 41; (with_reducible refine Calls.mono (take_nm _ _ _ _ _ _ (by first | omega | (simp only [List.length_cons]; omega)) (by omega) (by omega)) ?_); rintro e w' ⟨rfl, r1, rfl⟩) | (go_at_call 49; (with_reducible refine Calls.mono (read_c _ (by rw [size_bs, List.length_cons]; omega) _) ?_); rintro e w' ⟨rfl, rD, rfl⟩) | (first | ((with_reducible show Code.wp _ (Code.region 21 _ true) _ _ _); (with_reducible refine wp_more_quick_m (id := 21) ?_ ?_ ?_); kernel_rfl; kernel_rfl; (try simp only [List.take_succ_cons, List.take_zero, List.drop_succ_cons, List.drop_zero]); (repeat (any_goals (first | go_big_quiet_step (fail) | quiet_step (fail)))); (with_reducible refine wpQuiet_nil ?_); intro r) | ((with_reducible show Code.wp _ (Code.region 21 _ true) _ _ _); (with_reducible refine wp_more_quick (id := 21) ?_ ?_ ?_); kernel_rfl; kernel_rfl; (try simp only [List.take_succ_cons, List.take_zero, List.drop_succ_cons, List.drop_zero]); (repeat (any_goals (first | go_big_quiet_step (fail) | quiet_step (fail)))); (with_reducible refine wpQuiet_nil ?_); intro r)))
            refine (HR.out _ _ ?_).2
            go_returns
            exact lexTold HX.symm (by repeat (first | exact More.refl _ | refine More.alloc ?_ _ | refine More.more ?_ _ | refine More.drew ?_ | refine More.drewN ?_ _))
          | true =>
            rw [if_pos rfl] at HX
            go_wp2_with (first | (go_at_call 41; (with_reducible refine Calls.mono (take_bl _ _ _ _ _ _ (by first | omega | (simp only [List.length_cons]; omega)) (by omega) (by omega)) ?_); rintro e w' ⟨rfl, r1, rfl⟩) | (go_at_call 43; (with_reducible refine Calls.mono (ended_no _ _ _ _ _ _ _ (by omega) c10) ?_); rintro e w' ⟨rfl, rfl⟩) | (first | (go_at_call 44; (with_reducible refine (letter_c _ _).mono ?_); rintro e w' ⟨rfl, rfl⟩) | (go_at_call 45; (with_reducible refine (ldigit_c _ _).mono ?_); rintro e w' ⟨rfl, rfl⟩)))
            go_step3
            refine HG.out _ _ _ _ rfl ?_
            go_wp2_with (first | (go_at_call 47; (with_reducible refine Calls.mono (pass_1 _ _ _ _ _ _ _ (by omega) (by omega) (by omega)) ?_); rintro e w' ⟨rfl, r1, rfl⟩) | (go_at_call 41; (with_reducible refine Calls.mono (take_nm _ _ _ _ _ _ (by first | omega | (simp only [List.length_cons]; omega)) (by omega) (by omega)) ?_); rintro e w' ⟨rfl, r1, rfl⟩) | (go_at_call 49; (with_reducible refine Calls.mono (read_c _ (by rw [size_bs, List.length_cons]; omega) _) ?_); rintro e w' ⟨rfl, rD, rfl⟩) | (at_builtin; refine wpList_append_dec rfl (.tmp 73) (.tmp 75) 62 rfl 89 i0 _ 3 40 und_t3 hi hz0 hz1 hz2 rfl (by decide) _ acc.length (flatC tk3 acc) (W.heap.size + 2) (by simp) rfl (by repeat (first | exact HO.out | with_reducible apply OwnS.plus | with_reducible apply OwnS.draw)) (tk3 ⟨2, 45 :: t, L, D⟩) 1 _ rfl (by simp; omega) rfl (tk3_one _) (by simp only [maxLen]; omega) (by omega) ?_; intro v2 s2 hown2; have HO2 := Lib.hid (own_snoc hown2); clear hown2))
            go_step3
            refine (HJ.out _ _ ?_ ?_).2
            · exact AtZero.of z L (D + (1 + t.length)) (acc ++ [⟨2, 45 :: t, L, D⟩]) _ _ _ _ _ _ rfl rfl ⟨(by repeat (first | exact HO2.out | with_reducible apply OwnS.plus | with_reducible apply OwnS.draw)), ⟨n, by have := HN.out; omega, HX⟩, by omega, by omega, by simp; omega⟩
            · rw [toRead_any, toRead_any]
              omega
        have f45 : (byteAt (c :: q) 0 == 45) = false := by
          have : (c == UInt8.ofNat 45) = false := by simpa using c45
          rw [this] at b45
          exact b45
        clear b45
        cases hd : isD c with
        | true =>
          have hnm : c = 45 ∨ isD c = true := .inr hd
          rw [lexF_number hnm] at HX
          have hm := take_drop isNm q
          obtain ⟨t, ht⟩ : ∃ t, q.takeWhile isNm = t := ⟨_, rfl⟩
          obtain ⟨z, hz⟩ : ∃ z, q.dropWhile isNm = z := ⟨_, rfl⟩
          rw [ht, hz] at HX hm
          obtain ⟨ok, hok⟩ : ∃ b, (readP (c :: t)).2 = b := ⟨_, rfl⟩
          rw [hok] at HX
          cases ok with
          | false =>
            rw [if_neg (by simp)] at HX
            go_wp2_with (first | (go_at_call 41; (with_reducible refine Calls.mono (take_bl _ _ _ _ _ _ (by first | omega | (simp only [List.length_cons]; omega)) (by omega) (by omega)) ?_); rintro e w' ⟨rfl, r1, rfl⟩) | (go_at_call 43; (with_reducible refine Calls.mono (ended_no _ _ _ _ _ _ _ (by omega) c10) ?_); rintro e w' ⟨rfl, rfl⟩) | (first | (go_at_call 44; (with_reducible refine (letter_c _ _).mono ?_); rintro e w' ⟨rfl, rfl⟩) | (go_at_call 45; (with_reducible refine (ldigit_c _ _).mono ?_); rintro e w' ⟨rfl, rfl⟩)))
            go_step3
            refine HG.out _ _ _ _ rfl ?_
            go_wp2_with (first | (go_at_call 47; (with_reducible refine Calls.mono (pass_1 _ _ _ _ _ _ _ (by omega) (by omega) (by omega)) ?_); rintro e w' ⟨rfl, r1, rfl⟩) | (go_at_call 41; (with_reducible refine Calls.mono (take_nm _ _ _ _ _ _ (by first | omega | (simp only [List.length_cons]; omega)) (by omega) (by omega)) ?_); rintro e w' ⟨rfl, r1, rfl⟩) | (go_at_call 49; (with_reducible refine Calls.mono (read_c _ (by rw [size_bs, List.length_cons]; omega) _) ?_); rintro e w' ⟨rfl, rD, rfl⟩) | (first | ((with_reducible show Code.wp _ (Code.region 21 _ true) _ _ _); (with_reducible refine wp_more_quick_m (id := 21) ?_ ?_ ?_); kernel_rfl; kernel_rfl; (try simp only [List.take_succ_cons, List.take_zero, List.drop_succ_cons, List.drop_zero]); (repeat (any_goals (first | go_big_quiet_step (fail) | quiet_step (fail)))); (with_reducible refine wpQuiet_nil ?_); intro r) | ((with_reducible show Code.wp _ (Code.region 21 _ true) _ _ _); (with_reducible refine wp_more_quick (id := 21) ?_ ?_ ?_); kernel_rfl; kernel_rfl; (try simp only [List.take_succ_cons, List.take_zero, List.drop_succ_cons, List.drop_zero]); (repeat (any_goals (first | go_big_quiet_step (fail) | quiet_step (fail)))); (with_reducible refine wpQuiet_nil ?_); intro r)))
            refine (HR.out _ _ ?_).2
            go_returns
            exact lexTold HX.symm (by repeat (first | exact More.refl _ | refine More.alloc ?_ _ | refine More.more ?_ _ | refine More.drew ?_ | refine More.drewN ?_ _))
          | true =>
            rw [if_pos rfl] at HX
            go_wp2_with (first | (go_at_call 41; (with_reducible refine Calls.mono (take_bl _ _ _ _ _ _ (by first | omega | (simp only [List.length_cons]; omega)) (by omega) (by omega)) ?_); rintro e w' ⟨rfl, r1, rfl⟩) | (go_at_call 43; (with_reducible refine Calls.mono (ended_no _ _ _ _ _ _ _ (by omega) c10) ?_); rintro e w' ⟨rfl, rfl⟩) | (first | (go_at_call 44; (with_reducible refine (letter_c _ _).mono ?_); rintro e w' ⟨rfl, rfl⟩) | (go_at_call 45; (with_reducible refine (ldigit_c _ _).mono ?_); rintro e w' ⟨rfl, rfl⟩)))
            go_step3
            refine HG.out _ _ _ _ rfl ?_
            go_wp2_with (first | (go_at_call 47; (with_reducible refine Calls.mono (pass_1 _ _ _ _ _ _ _ (by omega) (by omega) (by omega)) ?_); rintro e w' ⟨rfl, r1, rfl⟩) | (go_at_call 41; (with_reducible refine Calls.mono (take_nm _ _ _ _ _ _ (by first | omega | (simp only [List.length_cons]; omega)) (by omega) (by omega)) ?_); rintro e w' ⟨rfl, r1, rfl⟩) | (go_at_call 49; (with_reducible refine Calls.mono (read_c _ (by rw [size_bs, List.length_cons]; omega) _) ?_); rintro e w' ⟨rfl, rD, rfl⟩) | (at_builtin; refine wpList_append_dec rfl (.tmp 73) (.tmp 75) 62 rfl 89 i0 _ 3 40 und_t3 hi hz0 hz1 hz2 rfl (by decide) _ acc.length (flatC tk3 acc) (W.heap.size + 2) (by simp) rfl (by repeat (first | exact HO.out | with_reducible apply OwnS.plus | with_reducible apply OwnS.draw)) (tk3 ⟨2, c :: t, L, D⟩) 1 _ rfl (by simp; omega) rfl (tk3_one _) (by simp only [maxLen]; omega) (by omega) ?_; intro v2 s2 hown2; have HO2 := Lib.hid (own_snoc hown2); clear hown2))
            go_step3
            refine (HJ.out _ _ ?_ ?_).2
            · exact AtZero.of z L (D + (1 + t.length)) (acc ++ [⟨2, c :: t, L, D⟩]) _ _ _ _ _ _ rfl rfl ⟨(by repeat (first | exact HO2.out | with_reducible apply OwnS.plus | with_reducible apply OwnS.draw)), ⟨n, by have := HN.out; omega, HX⟩, by omega, by omega, by simp; omega⟩
            · rw [toRead_any, toRead_any]
              omega
        | false =>
          rw [lexF_other hcb c10 c35 hc c45 hd] at HX
          go_wp2_with (first | (go_at_call 41; (with_reducible refine Calls.mono (take_bl _ _ _ _ _ _ (by first | omega | (simp only [List.length_cons]; omega)) (by omega) (by omega)) ?_); rintro e w' ⟨rfl, r1, rfl⟩) | (go_at_call 43; (with_reducible refine Calls.mono (ended_no _ _ _ _ _ _ _ (by omega) c10) ?_); rintro e w' ⟨rfl, rfl⟩) | (first | (go_at_call 44; (with_reducible refine (letter_c _ _).mono ?_); rintro e w' ⟨rfl, rfl⟩) | (go_at_call 45; (with_reducible refine (ldigit_c _ _).mono ?_); rintro e w' ⟨rfl, rfl⟩) | ((with_reducible show Code.wp _ (Code.region 11 _ true) _ _ _); (with_reducible refine wp_more_quick_m (id := 11) ?_ ?_ ?_); kernel_rfl; kernel_rfl; (try simp only [List.take_succ_cons, List.take_zero, List.drop_succ_cons, List.drop_zero]); (repeat (any_goals (first | go_big_quiet_step (fail) | quiet_step (fail)))); (with_reducible refine wpQuiet_nil ?_); intro r) | ((with_reducible show Code.wp _ (Code.region 11 _ true) _ _ _); (with_reducible refine wp_more_quick (id := 11) ?_ ?_ ?_); kernel_rfl; kernel_rfl; (try simp only [List.take_succ_cons, List.take_zero, List.drop_succ_cons, List.drop_zero]); (repeat (any_goals (first | go_big_quiet_step (fail) | quiet_step (fail)))); (with_reducible refine wpQuiet_nil ?_); intro r)))
          refine (HR.out _ _ ?_).1
          go_returns
          exact lexTold HX.symm (by repeat (first | exact More.refl _ | refine More.alloc ?_ _ | refine More.more ?_ _ | refine More.drew ?_ | refine More.drewN ?_ _))

end Go.Proofs.YtekhhekkepijoaaGreatDoor

