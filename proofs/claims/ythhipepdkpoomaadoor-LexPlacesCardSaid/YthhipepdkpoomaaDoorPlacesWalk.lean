/-
  LexPlaces: the walk: the text's lines, then each token in its line.
-/
import Derived.Test.YthhipepdkpoomaaDoorRead10
import Derived.Test.YthhipepdkpoomaaDoorPlain
namespace Go.Proofs.YthhipepdkpoomaaDoor
set_option linter.unusedVariables false
open Go.ChangeShapes Go.WideShapes Go.ChangeAt Go.RowKit

def rowC (r : List UInt8) : List Value := [.string (bsOf r)]
theorem rowC_len (r : List UInt8) : (rowC r).length = 1 := rfl
theorem rowC_one (r : List UInt8) : ∀ u ∈ rowC r, u.oneCell' = true := by
  intro u hu
  simp only [rowC, List.mem_cons, List.not_mem_nil, or_false] at hu
  subst hu
  rfl
theorem und_ss : Tryd.prog.underlying 44 = some (.slice 9) := by kernel_rfl
theorem info_ss : (Tryd.prog.info? 9).map (fun i => (i.zero, i.size, i.bytes)) = some (some (.string ⟨#[]⟩), 1, 16) := by kernel_rfl
theorem ord_gt {a b : Nat} (ha : a ≤ 100000) (h : b < a) : Ieee.double.order (nw a) (nw b) = some .gt ∧ Ieee.double.order (nw b) (nw a) = some .lt := by
  have e1 := order_ww (a := a) (b := b) false false (by omega) (by omega)
  have e2 := order_ww (a := b) (b := a) false false (by omega) (by omega)
  rw [ww_nw, ww_nw] at e1 e2
  refine ⟨e1.trans (congrArg some ?_), e2.trans (congrArg some ?_)⟩
  · rw [Int.compare_eq_gt]; omega
  · rw [Int.compare_eq_lt]; omega
theorem int_nw {n : Nat} (h : n ≤ 100000) (w : World) : (convert 45 3 (.float .f64 (nw n))).run Tryd.prog w = .ok (.int .i64 n) w := by
  rw [nw_eq]
  exact run_convert_float_int w _ _ .f64 .i64 _ _ (by kernel_rfl) (by kernel_rfl) (val_ww false (by omega))
theorem slice_at {P : Program} {row X : List UInt8} {q : Nat} (T : TypeId) (hT : P.underlying T = some .string) (h1 : q + X.length ≤ row.length) (h2 : (row.drop q).take X.length = X) (w : World) :
    (Instr.slice T (.string (bsOf row)) (some (.int .i64 q)) (some (.int .i64 ((q : Int) + (X.length : Int)))) none).run P w = .ok (.string (bsOf X)) w := by
  have h := slice_bs (P := P) (l := row) (j := q) (k := q + X.length) T hT (by omega) h1 w
  rw [Nat.add_sub_cancel_left, h2] at h
  exact h

/-- What holds of the lines that are made, at byte j. -/
structure Lin (t : List UInt8) (w wr : World) (j st : Nat) (done : List (List UInt8)) (v : Value) : Prop where
  own : OwnW w wr w.heap.size 9 1 v done.length (flatC rowC done)
  lin : (j ≤ t.length ∧ st ≤ j ∧ linesF [] t = done ++ linesF ((t.drop st).take (j - st)) (t.drop j)) ∨ (j = t.length + 1 ∧ linesF [] t = done)
  len : done.length ≤ j
theorem lin_end {t : List UInt8} {st : Nat} {done : List (List UInt8)} (h : linesF [] t = done ++ linesF ((t.drop st).take (t.length - st)) (t.drop t.length)) : linesF [] t = done ++ [(t.drop st).take (t.length - st)] := by
  rw [List.drop_length] at h
  exact h
theorem lin_line {t : List UInt8} {j st : Nat} {done : List (List UInt8)} (hj : j < t.length) (hb : t.getD j 0 = 10) (h : linesF [] t = done ++ linesF ((t.drop st).take (j - st)) (t.drop j)) :
    linesF [] t = (done ++ [(t.drop st).take (j - st)]) ++ linesF ((t.drop (j + 1)).take (j + 1 - (j + 1))) (t.drop (j + 1)) := by
  rw [drop_at hj, hb] at h
  rw [h, Nat.sub_self, List.take_zero, List.append_assoc]
  rfl
theorem lin_more {t : List UInt8} {j st : Nat} {done : List (List UInt8)} (hj : j < t.length) (hs : st ≤ j) (hb : ¬ t.getD j 0 = 10) (h : linesF [] t = done ++ linesF ((t.drop st).take (j - st)) (t.drop j)) :
    linesF [] t = done ++ linesF ((t.drop st).take (j + 1 - st)) (t.drop (j + 1)) := by
  rw [drop_at hj] at h
  have e : linesF ((t.drop st).take (j - st)) (t.getD j 0 :: t.drop (j + 1)) = linesF ((t.drop st).take (j - st) ++ [t.getD j 0]) (t.drop (j + 1)) := by
    conv => lhs; unfold linesF
    rw [if_neg hb]
  rw [e] at h
  have e2 : (t.drop st).take (j + 1 - st) = (t.drop st).take (j - st) ++ [t.getD j 0] := by
    have hl : j - st < (t.drop st).length := by rw [List.length_drop]; omega
    rw [show j + 1 - st = j - st + 1 by omega, List.take_succ_eq_append_getElem hl]
    congr 2
    rw [List.getElem_drop, List.getD_eq_getElem?_getD, List.getElem?_eq_getElem hj]
    simp only [show st + (j - st) = j by omega]
    rfl
  rw [e2]
  exact h

theorem lines_small : ∀ (r cur : List UInt8), ∀ row ∈ linesF cur r, row.length ≤ cur.length + r.length
  | [], cur, row, h => by simp [linesF] at h; subst h; simp
  | b :: r, cur, row, h => by
    unfold linesF at h
    split at h
    · rcases List.mem_cons.1 h with rfl | h
      · simp
      · have := lines_small r [] row h
        have e : ([] : List UInt8).length = 0 := rfl
        rw [List.length_cons]
        omega
    · have := lines_small r (cur ++ [b]) row h
      simp only [List.length_append, List.length_nil, List.length_cons] at this ⊢
      omega

set_option maxHeartbeats 16000000 in
set_option maxRecDepth 100000 in
theorem lexPlaces_walk (w : World) (s0 : Value) (l0 : List Int) (i0 : Ints w s0 l0) (k0 : ∀ n ∈ l0, -9223372036854775808 ≤ n ∧ n ≤ 9223372036854775807) (m0 : l0.length ≤ 9223372036854775807) :
    Calls Tryd.prog 5 #[s0] w fun e w' => e = .returned (.bool true) ∧ More w w' := by
  go_enter Tryd.func5, Tryd.ntmps5
  go_wp2_with (first | (go_at_call 10; (refine Calls.mono (put_c s0 l0 [] _ i0 k0 m0 (by simp)) ?_); rintro e w' ⟨t, rfl, ht, r, rfl⟩))
  simp only [List.length_nil] at ht
  obtain ⟨⟨T, L, C, E⟩, hx⟩ : ∃ x, lexP t = x := ⟨_, rfl⟩
  have hs := lexP_small t
  have hn := lexP_count t
  have hnone := lexP_none t
  have hrun := lexP_run t
  rw [hx] at hs hn hnone hrun
  obtain ⟨hL, hC, hE, hT⟩ := hs
  try dsimp only at hL hC hE hT hn hnone hrun
  have HT := Lib.hid hT
  clear hT
  by_cases hE0 : E = 0
  · subst hE0
    obtain ⟨fL, fC, hrn⟩ := hrun rfl
    clear hrun
    clear hnone
    go_wp2_with (first | (go_at_call 7; (refine Calls.mono (tokens_x t hx (by omega) _) ?_); rintro e w' ⟨v1, rfl, ⟨r1, rfl⟩, hr1⟩))
    try dsimp only at hr1
    obtain ⟨ao, ca, rfl, -⟩ := grow_form (fun _ => by rw [tk3_len]; decide) hr1
    try simp only [more_more] at hr1
    refine at_world (w := w) (R := fun W => GRow tk3 3 W (.slice ao T.length ca) T) (by repeat (first | exact More.refl _ | refine More.alloc ?_ _ | refine More.more ?_ _ | refine More.drew ?_ | refine More.drewN ?_ _)) hr1 ?_
    clear hr1
    rintro W1 hW1 hr1
    have HW1 := Lib.hid hW1
    have HT1 := Lib.hid hr1
    have HRun := Lib.hid hrn
    clear hW1 hr1 hrn i0 k0 m0
    obtain ⟨i0, hi, hz0, hz1, hz2⟩ := info_parts info_ss
    go_loopw [7, 8, 9] (fun v xf xi wr => ∃ (j st : Nat) (done : List (List UInt8)), xf = .int .i64 st ∧ xi = .int .i64 j ∧ Lin t W1 wr j st done v) (fun _ _ xi _ => t.length + 1 - (intOf xi).toNat)
    case atStart => exact ⟨0, 0, [], rfl, rfl, ⟨⟨⟨#[], _⟩, (more_self _).symm, OwnS.nil _ _ _ _⟩, .inl ⟨by omega, by omega, by simp⟩, by simp⟩⟩
    case round =>
      obtain ⟨j, st, done, rfl, rfl, hS⟩ := hrel
      obtain ⟨hO, hq, hlen⟩ := hS
      obtain ⟨s, rfl, hO⟩ := hO
      have HO := Lib.hid (show OwnW W1 (more W1 s) _ _ _ _ _ _ from ⟨s, rfl, hO⟩)
      clear hO
      rcases hq with ⟨hj, hst, hlin⟩ | ⟨hj1, hlin⟩
      · by_cases hje : j = t.length
        · subst hje
          have hl := lin_end hlin
          clear hlin
          obtain ⟨X, hX⟩ : ∃ X, (t.drop st).take (t.length - st) = X := ⟨_, rfl⟩
          have hsl := fun w => slice_bs (P := Tryd.prog) (l := t) (j := st) (k := t.length) 9 (by kernel_rfl) (by omega) (by omega) w
          rw [hX] at hsl hl
          clear hX
          have HL := Lib.hid hl
          clear hl
          go_wp2_with (first | (at_builtin; refine wpList_append_w (W2 := W1) rfl (.tmp 49) (.tmp 54) 44 rfl 9 i0 _ 1 16 und_ss hi hz0 hz1 hz2 rfl (by decide) _ done.length (flatC rowC done) W1.heap.size rfl rfl (by repeat (first | exact HO.out | with_reducible apply OwnW.alloc | with_reducible apply OwnW.more | with_reducible apply OwnW.drew)) (rowC X) 1 _ rfl (by simp) rfl (rowC_one _) (by simp only [maxLen]; omega) (by omega) ?_; intro v2 w2 hown2; obtain ⟨s2, hw2, hs2⟩ := (OwnW.snoc hown2); clear hown2; subst hw2; have HO2 := Lib.hid (show OwnW W1 (more W1 s2) _ _ _ _ _ _ from ⟨s2, rfl, hs2⟩); clear hs2))
          go_roundw
          case rel => exact ⟨t.length + 1, t.length + 1, done ++ [X], (by first | rfl | exact int_is (by omega)), (by first | rfl | exact int_is (by omega)), ⟨(by repeat (first | exact HO2.out | with_reducible apply OwnW.alloc | with_reducible apply OwnW.more | with_reducible apply OwnW.drew)), .inr ⟨rfl, HL.out⟩, by first | omega | (simp only [List.length_append, List.length_singleton]; omega)⟩⟩
          case measure => simp [intOf] <;> omega
        · have hjl : j < t.length := by omega
          have hjne : ((j : Int) == (t.length : Int)) = false := by simp; omega
          have hbd := byteAt_bd t j
          have b10 := byte_is t j 10 (by omega)
          rw [show ((10 : Nat) : Int) = 10 from rfl] at b10
          by_cases c10 : t.getD j 0 = 10
          · have f10 : (byteAt t j == 10) = true := by rw [b10, c10]; rfl
            clear b10
            have hl := lin_line hjl c10 hlin
            clear hlin
            obtain ⟨X, hX⟩ : ∃ X, (t.drop st).take (j - st) = X := ⟨_, rfl⟩
            have hsl := fun w => slice_bs (P := Tryd.prog) (l := t) (j := st) (k := j) 9 (by kernel_rfl) (by omega) (by omega) w
            rw [hX] at hsl hl
            clear hX
            have HL := Lib.hid hl
            clear hl
            go_wp2_with (first | (at_builtin; refine wpList_append_w (W2 := W1) rfl (.tmp 49) (.tmp 54) 44 rfl 9 i0 _ 1 16 und_ss hi hz0 hz1 hz2 rfl (by decide) _ done.length (flatC rowC done) W1.heap.size rfl rfl (by repeat (first | exact HO.out | with_reducible apply OwnW.alloc | with_reducible apply OwnW.more | with_reducible apply OwnW.drew)) (rowC X) 1 _ rfl (by simp) rfl (rowC_one _) (by simp only [maxLen]; omega) (by omega) ?_; intro v2 w2 hown2; obtain ⟨s2, hw2, hs2⟩ := (OwnW.snoc hown2); clear hown2; subst hw2; have HO2 := Lib.hid (show OwnW W1 (more W1 s2) _ _ _ _ _ _ from ⟨s2, rfl, hs2⟩); clear hs2))
            go_roundw
            case rel => exact ⟨j + 1, j + 1, done ++ [X], (by first | rfl | exact int_is (by omega)), (by first | rfl | exact int_is (by omega)), ⟨(by repeat (first | exact HO2.out | with_reducible apply OwnW.alloc | with_reducible apply OwnW.more | with_reducible apply OwnW.drew)), .inl ⟨by omega, by omega, HL.out⟩, by first | omega | (simp only [List.length_append, List.length_singleton]; omega)⟩⟩
            case measure => simp [intOf] <;> omega
          · have f10 : (byteAt t j == 10) = false := by rw [b10]; simpa using c10
            clear b10
            have hl := lin_more hjl hst c10 hlin
            have HL := Lib.hid hl
            clear hlin hl
            go_wp2_with fail
            go_roundw
            case rel => exact ⟨j + 1, st, done, (by first | rfl | exact int_is (by omega)), (by first | rfl | exact int_is (by omega)), ⟨(by repeat (first | exact HO.out | with_reducible apply OwnW.alloc | with_reducible apply OwnW.more | with_reducible apply OwnW.drew)), .inl ⟨by omega, by omega, HL.out⟩, by first | omega | (simp only [List.length_append, List.length_singleton]; omega)⟩⟩
            case measure => simp [intOf] <;> omega
      · have hdl : done.length ≤ 1201 := by have := linesF_len2 [] t; rw [hlin] at this; omega
        have HS := Lib.hid (show ∀ row ∈ done, row.length ≤ 1200 from fun row hr => by have := lines_small t [] row (by rw [hlin]; exact hr); simp only [List.length_nil] at this; omega)
        have HD := Lib.hid (OwnW.row (X := W1) (base := W1.heap.size) (f := rowC) rowC_len (by decide) rfl HO.out)
        obtain ⟨lo, lc, rfl, -⟩ := grow_form (fun _ => by rw [rowC_len]; decide) HD.out
        have hrun2 := HRun.out
        rw [hlin] at hrun2
        have HRun2 := Lib.hid hrun2
        clear hrun2 hlin
        have z0 := nw_zero
        have hjgt : t.length < j := by omega
        have hdj : done.length ≤ 4100 := by omega
        have h36 : decide ((j : Int) ≤ (t.length : Int)) = false := by simp; omega
        have h37 : decide (j ≤ t.length) = false := by simp; omega
        clear hj1
        go_wp2_with fail
        go_loopw [10, 11, 60] (fun xl xe xi wr => ∃ (k lL lC : Nat) (en : Bool), k ≤ T.length ∧ xl = .complex .f64 (nw lL) (nw lC) ∧ xe = .bool en ∧ xi = .int .i64 k ∧ lL ≤ 4001 ∧ lC ≤ 4001 ∧ Run done (lL, lC, en) (T.drop k) (fL, fC, true) ∧ More W1 wr ∧ GRow tk3 3 wr (.slice ao T.length ca) T ∧ GRow rowC 1 wr (.slice lo done.length lc) done) (fun _ _ xi _ => T.length - (intOf xi).toNat)
        case atStart => exact ⟨0, 0, 0, true, by omega, by rw [z0], rfl, rfl, by omega, by omega, HRun2.out, (by repeat (first | exact More.refl _ | refine More.alloc ?_ _ | refine More.more ?_ _ | refine More.drew ?_ | refine More.drewN ?_ _)), HT1.out.up (by repeat (first | exact More.refl _ | refine More.alloc ?_ _ | refine More.more ?_ _ | refine More.drew ?_ | refine More.drewN ?_ _)), HD.out⟩
        case round =>
          obtain ⟨k, lL, lC, en, hk, rfl, rfl, rfl, hlL, hlC, hr, hM, h1, h2⟩ := hrel
          have HM := Lib.hid hM
          have H1 := Lib.hid h1
          have H2 := Lib.hid h2
          clear hM
          by_cases hkl : k < T.length
          · rw [List.drop_eq_getElem_cons hkl] at hr
            obtain ⟨⟨K, X, tl, tc⟩, ht⟩ : ∃ t, T[k]? = some t := ⟨T[k], List.getElem?_eq_getElem hkl⟩
            have hte : T[k] = ⟨K, X, tl, tc⟩ := by rw [List.getElem?_eq_getElem hkl] at ht; exact Option.some.inj ht
            rw [hte] at hr
            obtain ⟨hf, hr⟩ := hr
            obtain ⟨g1, g2, g3, g4, g5, row, g6, g7, g8⟩ := hf
            obtain ⟨u1, u2, u3⟩ := HT.out _ (List.mem_of_getElem? ht)
            dsimp only [after] at g1 g2 g3 g4 g5 g6 g7 g8 hr u1 u2 u3
            obtain ⟨p, hp⟩ : ∃ p, tl = p + 1 := ⟨tl - 1, by omega⟩
            obtain ⟨q, hq⟩ : ∃ q, tc = q + 1 := ⟨tc - 1, by omega⟩
            have hpz : (tl : Int) - 1 = (p : Int) := by omega
            have hqz : (tc : Int) - 1 = (q : Int) := by omega
            rw [show tl - 1 = p by omega] at g6
            rw [show tc - 1 = q by omega] at g8
            clear hp hq
            have hrw := HS.out row (List.mem_of_getElem? g6)
            obtain ⟨b1, o1, rfl, hb1, d1⟩ := grow_at h1 ht (by rw [tk3_len]; decide)
            obtain ⟨b2, o2, rfl, hb2, d2⟩ := grow_at h2 g6 (by rw [rowC_len]; decide)
            have c0 := d1 0 (.int .i64 K) rfl
            have c1 := d1 1 (.string (bsOf X)) rfl
            have c2 := d1 2 (.complex .f64 (nw tl) (nw tc)) rfl
            have c3 := d2 0 (.string (bsOf row)) rfl
            rw [Nat.add_zero] at c0 c3
            rw [Nat.mul_one] at c3
            clear d1 d2 h1 h2 ht hte g6
            have v1 := int_nw (n := tl) (by omega)
            have v2 := int_nw (n := tc) (by omega)
            by_cases hK : K = 3
            · subst hK
              obtain ⟨g9, rfl⟩ := g7 rfl
              clear g7 g8
              have HR := Lib.hid (show Run done (tl, tc, true) (T.drop (k + 1)) (fL, fC, true) from hr)
              clear hr
              rcases g4 with ho | ho
              · obtain ⟨oA1, oA2⟩ := ord_gt (a := tl) (b := lL) (by omega) ho
                have hen := g5 ho
                clear g5
                subst hen
                have hcol : ((tc : Int) != (row.length : Int) + 1) = false := by simp; omega
                clear g9
                have hsx : ∀ w, (binOp .neq 9 (.string (bsOf [])) (.string ⟨#[]⟩)).run Tryd.prog w = .ok (.bool false) w := fun w => by kernel_rfl
                go_wp2_with (first | (go_at_call 8; (with_reducible refine (known10_c _).mono ?_); rintro e w' ⟨rfl, r, rfl⟩) | ((with_reducible show Code.wp _ (Code.region 28 _ true) _ _ _); (with_reducible refine wp_more_quick_m (id := 28) ?_ ?_ ?_); kernel_rfl; kernel_rfl; (try simp only [List.take_succ_cons, List.take_zero, List.drop_succ_cons, List.drop_zero]); (repeat (any_goals (first | go_big_quiet_step ((first | (go_at_call 8; (with_reducible apply quiet_call); with_reducible exact known10_c _))) | quiet_step ((first | (go_at_call 8; (with_reducible apply quiet_call); with_reducible exact known10_c _)))))); (with_reducible refine wpQuiet_nil ?_); intro r) | ((with_reducible show Code.wp _ (Code.region 28 _ true) _ _ _); (with_reducible refine wp_more_quick (id := 28) ?_ ?_ ?_); kernel_rfl; kernel_rfl; (try simp only [List.take_succ_cons, List.take_zero, List.drop_succ_cons, List.drop_zero]); (repeat (any_goals (first | go_big_quiet_step ((first | (go_at_call 8; (with_reducible apply quiet_call); with_reducible exact known10_c _))) | quiet_step ((first | (go_at_call 8; (with_reducible apply quiet_call); with_reducible exact known10_c _)))))); (with_reducible refine wpQuiet_nil ?_); intro r))
                go_roundw
                case rel => exact ⟨k + 1, tl, tc, true, by omega, rfl, rfl, rfl, by omega, by omega, HR.out, HM.out.trans (by repeat (first | exact More.refl _ | refine More.alloc ?_ _ | refine More.more ?_ _ | refine More.drew ?_ | refine More.drewN ?_ _)), H1.out.up (by repeat (first | exact More.refl _ | refine More.alloc ?_ _ | refine More.more ?_ _ | refine More.drew ?_ | refine More.drewN ?_ _)), H2.out.up (by repeat (first | exact More.refl _ | refine More.alloc ?_ _ | refine More.more ?_ _ | refine More.drew ?_ | refine More.drewN ?_ _))⟩
                case measure => simp [intOf] <;> omega
              · obtain ⟨hoe, ho⟩ := ho
                subst hoe
                have oB := ord_eq (n := tl) (by omega)
                obtain ⟨oA1, oA2⟩ := ord_gt (a := tc) (b := lC) (by omega) ho
                clear g5
                have hcol : ((tc : Int) != (row.length : Int) + 1) = false := by simp; omega
                clear g9
                have hsx : ∀ w, (binOp .neq 9 (.string (bsOf [])) (.string ⟨#[]⟩)).run Tryd.prog w = .ok (.bool false) w := fun w => by kernel_rfl
                go_wp2_with (first | (go_at_call 8; (with_reducible refine (known10_c _).mono ?_); rintro e w' ⟨rfl, r, rfl⟩) | ((with_reducible show Code.wp _ (Code.region 28 _ true) _ _ _); (with_reducible refine wp_more_quick_m (id := 28) ?_ ?_ ?_); kernel_rfl; kernel_rfl; (try simp only [List.take_succ_cons, List.take_zero, List.drop_succ_cons, List.drop_zero]); (repeat (any_goals (first | go_big_quiet_step ((first | (go_at_call 8; (with_reducible apply quiet_call); with_reducible exact known10_c _))) | quiet_step ((first | (go_at_call 8; (with_reducible apply quiet_call); with_reducible exact known10_c _)))))); (with_reducible refine wpQuiet_nil ?_); intro r) | ((with_reducible show Code.wp _ (Code.region 28 _ true) _ _ _); (with_reducible refine wp_more_quick (id := 28) ?_ ?_ ?_); kernel_rfl; kernel_rfl; (try simp only [List.take_succ_cons, List.take_zero, List.drop_succ_cons, List.drop_zero]); (repeat (any_goals (first | go_big_quiet_step ((first | (go_at_call 8; (with_reducible apply quiet_call); with_reducible exact known10_c _))) | quiet_step ((first | (go_at_call 8; (with_reducible apply quiet_call); with_reducible exact known10_c _)))))); (with_reducible refine wpQuiet_nil ?_); intro r))
                go_roundw
                case rel => exact ⟨k + 1, tl, tc, true, by omega, rfl, rfl, rfl, by omega, by omega, HR.out, HM.out.trans (by repeat (first | exact More.refl _ | refine More.alloc ?_ _ | refine More.more ?_ _ | refine More.drew ?_ | refine More.drewN ?_ _)), H1.out.up (by repeat (first | exact More.refl _ | refine More.alloc ?_ _ | refine More.more ?_ _ | refine More.drew ?_ | refine More.drewN ?_ _)), H2.out.up (by repeat (first | exact More.refl _ | refine More.alloc ?_ _ | refine More.more ?_ _ | refine More.drew ?_ | refine More.drewN ?_ _))⟩
                case measure => simp [intOf] <;> omega
            · obtain ⟨hqX, hqY, hX⟩ := g8 hK
              clear g7 g8
              have hK3 : ((K : Int) == 3) = false := by simp; omega
              have HR := Lib.hid (show Run done (tl, tc, false) (T.drop (k + 1)) (fL, fC, true) from by have := hr; rw [show (K == 3) = false by simpa using hK] at this; exact this)
              clear hr
              rcases g4 with ho | ho
              · obtain ⟨oA1, oA2⟩ := ord_gt (a := tl) (b := lL) (by omega) ho
                have hen := g5 ho
                clear g5
                subst hen
                have hsl := fun w => slice_at (P := Tryd.prog) (row := row) (X := X) (q := q) 9 (by kernel_rfl) hqX hqY w
                have hX0 : ((X.length : Int) == 0) = false := by rw [beq_eq_false_iff_ne]; omega
                have hX1 : (X.length == 0) = false := by rw [beq_eq_false_iff_ne]; omega
                have hX2 : ¬ X = [] := by intro h; rw [h] at hX; exact absurd hX (by decide)
                have hgt : decide ((row.length : Int) < (q : Int) + (X.length : Int)) = false := by simp; omega
                have hgn : decide (row.length < q + X.length) = false := by simp; omega
                clear hqY
                go_wp2_with (first | (go_at_call 8; (with_reducible refine (known10_c _).mono ?_); rintro e w' ⟨rfl, r, rfl⟩) | ((with_reducible show Code.wp _ (Code.region 28 _ true) _ _ _); (with_reducible refine wp_more_quick_m (id := 28) ?_ ?_ ?_); kernel_rfl; kernel_rfl; (try simp only [List.take_succ_cons, List.take_zero, List.drop_succ_cons, List.drop_zero]); (repeat (any_goals (first | go_big_quiet_step ((first | (go_at_call 8; (with_reducible apply quiet_call); with_reducible exact known10_c _))) | quiet_step ((first | (go_at_call 8; (with_reducible apply quiet_call); with_reducible exact known10_c _)))))); (with_reducible refine wpQuiet_nil ?_); intro r) | ((with_reducible show Code.wp _ (Code.region 28 _ true) _ _ _); (with_reducible refine wp_more_quick (id := 28) ?_ ?_ ?_); kernel_rfl; kernel_rfl; (try simp only [List.take_succ_cons, List.take_zero, List.drop_succ_cons, List.drop_zero]); (repeat (any_goals (first | go_big_quiet_step ((first | (go_at_call 8; (with_reducible apply quiet_call); with_reducible exact known10_c _))) | quiet_step ((first | (go_at_call 8; (with_reducible apply quiet_call); with_reducible exact known10_c _)))))); (with_reducible refine wpQuiet_nil ?_); intro r))
                go_roundw
                case rel => exact ⟨k + 1, tl, tc, false, by omega, rfl, rfl, rfl, by omega, by omega, HR.out, HM.out.trans (by repeat (first | exact More.refl _ | refine More.alloc ?_ _ | refine More.more ?_ _ | refine More.drew ?_ | refine More.drewN ?_ _)), H1.out.up (by repeat (first | exact More.refl _ | refine More.alloc ?_ _ | refine More.more ?_ _ | refine More.drew ?_ | refine More.drewN ?_ _)), H2.out.up (by repeat (first | exact More.refl _ | refine More.alloc ?_ _ | refine More.more ?_ _ | refine More.drew ?_ | refine More.drewN ?_ _))⟩
                case measure => simp [intOf] <;> omega
              · obtain ⟨hoe, ho⟩ := ho
                subst hoe
                have oB := ord_eq (n := tl) (by omega)
                obtain ⟨oA1, oA2⟩ := ord_gt (a := tc) (b := lC) (by omega) ho
                clear g5
                have hsl := fun w => slice_at (P := Tryd.prog) (row := row) (X := X) (q := q) 9 (by kernel_rfl) hqX hqY w
                have hX0 : ((X.length : Int) == 0) = false := by rw [beq_eq_false_iff_ne]; omega
                have hX1 : (X.length == 0) = false := by rw [beq_eq_false_iff_ne]; omega
                have hX2 : ¬ X = [] := by intro h; rw [h] at hX; exact absurd hX (by decide)
                have hgt : decide ((row.length : Int) < (q : Int) + (X.length : Int)) = false := by simp; omega
                have hgn : decide (row.length < q + X.length) = false := by simp; omega
                clear hqY
                go_wp2_with (first | (go_at_call 8; (with_reducible refine (known10_c _).mono ?_); rintro e w' ⟨rfl, r, rfl⟩) | ((with_reducible show Code.wp _ (Code.region 28 _ true) _ _ _); (with_reducible refine wp_more_quick_m (id := 28) ?_ ?_ ?_); kernel_rfl; kernel_rfl; (try simp only [List.take_succ_cons, List.take_zero, List.drop_succ_cons, List.drop_zero]); (repeat (any_goals (first | go_big_quiet_step ((first | (go_at_call 8; (with_reducible apply quiet_call); with_reducible exact known10_c _))) | quiet_step ((first | (go_at_call 8; (with_reducible apply quiet_call); with_reducible exact known10_c _)))))); (with_reducible refine wpQuiet_nil ?_); intro r) | ((with_reducible show Code.wp _ (Code.region 28 _ true) _ _ _); (with_reducible refine wp_more_quick (id := 28) ?_ ?_ ?_); kernel_rfl; kernel_rfl; (try simp only [List.take_succ_cons, List.take_zero, List.drop_succ_cons, List.drop_zero]); (repeat (any_goals (first | go_big_quiet_step ((first | (go_at_call 8; (with_reducible apply quiet_call); with_reducible exact known10_c _))) | quiet_step ((first | (go_at_call 8; (with_reducible apply quiet_call); with_reducible exact known10_c _)))))); (with_reducible refine wpQuiet_nil ?_); intro r))
                go_roundw
                case rel => exact ⟨k + 1, tl, tc, false, by omega, rfl, rfl, rfl, by omega, by omega, HR.out, HM.out.trans (by repeat (first | exact More.refl _ | refine More.alloc ?_ _ | refine More.more ?_ _ | refine More.drew ?_ | refine More.drewN ?_ _)), H1.out.up (by repeat (first | exact More.refl _ | refine More.alloc ?_ _ | refine More.more ?_ _ | refine More.drew ?_ | refine More.drewN ?_ _)), H2.out.up (by repeat (first | exact More.refl _ | refine More.alloc ?_ _ | refine More.more ?_ _ | refine More.drew ?_ | refine More.drewN ?_ _))⟩
                case measure => simp [intOf] <;> omega
          · obtain rfl : k = T.length := by omega
            rw [List.drop_length] at hr
            have hen : en = true := by have := hr; simp only [Run, Prod.mk.injEq] at this; exact this.2.2
            subst hen
            clear h1 h2 hr
            go_wp2_with (first | (go_at_call 8; (with_reducible refine (known10_c _).mono ?_); rintro e w' ⟨rfl, r, rfl⟩) | ((with_reducible show Code.wp _ (Code.region 28 _ true) _ _ _); (with_reducible refine wp_more_quick_m (id := 28) ?_ ?_ ?_); kernel_rfl; kernel_rfl; (try simp only [List.take_succ_cons, List.take_zero, List.drop_succ_cons, List.drop_zero]); (repeat (any_goals (first | go_big_quiet_step ((first | (go_at_call 8; (with_reducible apply quiet_call); with_reducible exact known10_c _))) | quiet_step ((first | (go_at_call 8; (with_reducible apply quiet_call); with_reducible exact known10_c _)))))); (with_reducible refine wpQuiet_nil ?_); intro r) | ((with_reducible show Code.wp _ (Code.region 28 _ true) _ _ _); (with_reducible refine wp_more_quick (id := 28) ?_ ?_ ?_); kernel_rfl; kernel_rfl; (try simp only [List.take_succ_cons, List.take_zero, List.drop_succ_cons, List.drop_zero]); (repeat (any_goals (first | go_big_quiet_step ((first | (go_at_call 8; (with_reducible apply quiet_call); with_reducible exact known10_c _))) | quiet_step ((first | (go_at_call 8; (with_reducible apply quiet_call); with_reducible exact known10_c _)))))); (with_reducible refine wpQuiet_nil ?_); intro r))
            go_returns
            exact ⟨rfl, (HW1.out.trans HM.out).trans (by repeat (first | exact More.refl _ | refine More.alloc ?_ _ | refine More.more ?_ _ | refine More.drew ?_ | refine More.drewN ?_ _))⟩
  · have hT0 : T = [] := hnone hE0
    subst hT0
    have hEne : ((E : Int) != 0) = true := by simp; omega
    go_wp2_with (first | (go_at_call 7; (refine Calls.mono (tokens_x t hx (by omega) _) ?_); rintro e w' ⟨v1, rfl, ⟨r1, rfl⟩, hr1⟩))
    try dsimp only at hr1
    obtain ⟨ao, ca, rfl, -⟩ := grow_form (fun _ => by rw [tk3_len]; decide) hr1
    clear hr1
    go_wp2_with (first | (go_at_call 8; (with_reducible refine (known10_c _).mono ?_); rintro e w' ⟨rfl, r, rfl⟩) | ((with_reducible show Code.wp _ (Code.region 28 _ true) _ _ _); (with_reducible refine wp_more_quick_m (id := 28) ?_ ?_ ?_); kernel_rfl; kernel_rfl; (try simp only [List.take_succ_cons, List.take_zero, List.drop_succ_cons, List.drop_zero]); (repeat (any_goals (first | go_big_quiet_step ((first | (go_at_call 8; (with_reducible apply quiet_call); with_reducible exact known10_c _))) | quiet_step ((first | (go_at_call 8; (with_reducible apply quiet_call); with_reducible exact known10_c _)))))); (with_reducible refine wpQuiet_nil ?_); intro r) | ((with_reducible show Code.wp _ (Code.region 28 _ true) _ _ _); (with_reducible refine wp_more_quick (id := 28) ?_ ?_ ?_); kernel_rfl; kernel_rfl; (try simp only [List.take_succ_cons, List.take_zero, List.drop_succ_cons, List.drop_zero]); (repeat (any_goals (first | go_big_quiet_step ((first | (go_at_call 8; (with_reducible apply quiet_call); with_reducible exact known10_c _))) | quiet_step ((first | (go_at_call 8; (with_reducible apply quiet_call); with_reducible exact known10_c _)))))); (with_reducible refine wpQuiet_nil ?_); intro r))
    go_returns
    exact ⟨rfl, (by repeat (first | exact More.refl _ | refine More.alloc ?_ _ | refine More.more ?_ _ | refine More.drew ?_ | refine More.drewN ?_ _))⟩
end Go.Proofs.YthhipepdkpoomaaDoor

