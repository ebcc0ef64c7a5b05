/-
  The walk of DecBack.
-/
import Derived.Test.YthnehnabldgagaaDoorLaw9
import Derived.Test.YthnehnabldgagaaDoorBackMath
import Derived.Laws.RangeString
namespace Go.Proofs.YthnehnabldgagaaDoor
set_option linter.unusedVariables false
open Go.ChangeShapes Go.WideShapes Go.ChangeAt Go.RowKit

@[go_sem] theorem extract_mk_bs (a : Array UInt8) (i j : Nat) : (⟨a⟩ : ByteArray).extract i j = bsOf ((a.toList.drop i).take (j - i)) := extract_bs a.toList i j
theorem readPrint_c (d : Dec) (h : readP (printP d) = (d, true)) (W : World) : Calls Tryd.prog 6 #[.string (bsOf (printP d))] W fun e w' => e = .returned (.tuple #[decV d, .bool true]) ∧ More W w' := by
  have := read_c (bsOf (printP d)) (by rw [size_bs]; have := printP_len d; omega) W
  rw [ls_bs, h] at this
  exact this
theorem at_calls {P : Program} {f : FuncId} {args : Array Value} {Q : Ending → World → Prop} {w W : World} {R : World → Prop} (hm : More w W) (hr : R W) (h : ∀ W1, More w W1 → R W1 → Calls P f args W1 Q) : Calls P f args W Q := h W hm hr
theorem next_digit (W : World) (L : List UInt8) (i : Nat) (ty : TypeId) (h : i < L.length) (hd : byteAt L i ≤ 57) :
    (Instr.next (.pointer (some ⟨W.heap.size, 0, none⟩)) true ty).run Tryd.prog (W.iter (bsOf L) i) = .ok (.tuple #[.bool true, .int .i64 i, .int .i32 (byteAt L i)]) (W.iter (bsOf L) (i + 1)) := by
  have hi : i < (bsOf L).size := by rw [size_bs]; exact h
  have e := get_bs L i hi
  rw [run_next_ascii W (bsOf L) i ty hi (by omega), e]
theorem next_none (W : World) (L : List UInt8) (ty : TypeId) :
    (Instr.next (.pointer (some ⟨W.heap.size, 0, none⟩)) true ty).run Tryd.prog (W.iter (bsOf L) L.length) = .ok (.tuple #[.bool false]) (W.iter (bsOf L) L.length) :=
  run_next_end W (bsOf L) L.length ty (by rw [size_bs]; omega)
def iterAt (w : World) (b : Nat) : Nat := match w.heap[b]? with | some (.stringIter _ p) => p | _ => 0
theorem iterAt_is (W : World) (s : ByteArray) (p : Nat) : iterAt (W.iter s p) W.heap.size = p := by
  unfold iterAt
  rw [World.iter_heap]
theorem eight_nat (N : Nat) (lN : N < 10000000) : N % 10 ^ 7 + 10 ^ 7 = N + 10000000 := by
  have e7 : (10 : Nat) ^ 7 = 10000000 := by decide
  rw [e7]
  omega
/-- The digits of a number of eight digits that begins with 1. -/
theorem eight (N : Nat) (lN : N < 10000000) : ∃ (M : Nat) (x0 : UInt8) (S : List UInt8), (N : Int) + 10000000 = (M : Int) ∧ (M : Int) ≤ 20000000 ∧ Lib.decDigits M = x0 :: S ∧ S.length = 7 ∧ S.all isD = true := by
  refine ⟨N % 10 ^ 7 + 10 ^ 7, (Lib.decDigits (N % 10 ^ 7 + 10 ^ 7)).headD 0, tailL N 7, ?_, ?_, ?_, tail_len 7 N, tail_all 7 N⟩
  · rw [eight_nat N lN]
    omega
  · rw [eight_nat N lN]
    omega
  · unfold tailL
    cases h : Lib.decDigits (N % 10 ^ 7 + 10 ^ 7) with
    | nil => exact absurd h (dig_ne _)
    | cons a r => rfl

set_option maxRecDepth 100000 in
set_option maxHeartbeats 16000000 in
theorem decBack_walk (w : World) (a0 a1 a2 : Int) (a3 : Bool) (w0 : (Lit.int .i64 a0).wf = true) (w1 : (Lit.int .i64 a1).wf = true) (w2 : (Lit.int .i64 a2).wf = true) (ht : Tab w) :
    Calls Tryd.prog 5 #[.int .i64 a0, .int .i64 a1, .int .i64 a2, .bool a3] w fun e w' => e = .returned (.bool true) ∧ More w w' := by
  have b0 := bounds_i64 w0
  have b1 := bounds_i64 w1
  have b2 := bounds_i64 w2
  clear w0 w1 w2
  obtain ⟨N, hN⟩ : ∃ N : Nat, a0 % 10000000 = N := ⟨(a0 % 10000000).toNat, by omega⟩
  obtain ⟨K, hK⟩ : ∃ K : Nat, a1 % 5 = K := ⟨(a1 % 5).toNat, by omega⟩
  obtain ⟨Z, hZ⟩ : ∃ Z : Nat, a2 % 3 = Z := ⟨(a2 % 3).toNat, by omega⟩
  have lN : N < 10000000 := by omega
  have lK : K ≤ 4 := by omega
  have lZ : Z ≤ 2 := by omega
  obtain ⟨M, x0, S, hM, hMb, hDt, hSl, hSa⟩ := eight N lN
  have hS7 : S.take 7 = S := List.take_of_length_le (by omega)
  obtain ⟨A, hA⟩ : ∃ A, S.take 3 = A := ⟨_, rfl⟩
  obtain ⟨Q, hQ⟩ : ∃ Q, S.drop 3 = Q := ⟨_, rfl⟩
  have hAl : A.length = 3 := by rw [← hA, List.length_take]; omega
  have hQl : Q.length = 4 := by rw [← hQ, List.length_drop]; omega
  have hAa : A.all isD = true := by rw [← hA]; rw [List.all_eq_true] at *; exact fun x hx => hSa x (List.mem_of_mem_take hx)
  have hQa : Q.all isD = true := by rw [← hQ]; rw [List.all_eq_true] at *; exact fun x hx => hSa x (List.mem_of_mem_drop hx)
  have hQ4 : Q.take 4 = Q := List.take_of_length_le (by omega)
  obtain ⟨R, hR⟩ : ∃ R, Q.take K = R := ⟨_, rfl⟩
  have hRl : R.length = K := by rw [← hR, List.length_take]; omega
  have hRa : R.all isD = true := by rw [← hR]; rw [List.all_eq_true] at *; exact fun x hx => hQa x (List.mem_of_mem_take hx)
  have HA := Lib.hid hAa
  have HR := Lib.hid hRa
  clear hSa hQa hAa hRa
  by_cases hK0 : K = 0
  · subst hK0
    have hRe : R = [] := by rw [← hR]; rfl
    subst hRe
    have hk00 : a1 % 5 = 0 := hK
    clear hK hR hRl HR hZ lZ
    go_enter Tryd.func5, Tryd.ntmps5
    go_wp2_with (first | (go_at_call 6; (with_reducible refine Calls.mono (readPrint_c _ q2 _) ?_); rintro e w' ⟨rfl, r, rfl⟩) | (go_at_call 6; (with_reducible refine Calls.mono (read_c _ (by first | omega | (simp <;> omega)) _) ?_); rintro e w' ⟨rfl, r, rfl⟩) | (go_at_call 11; (with_reducible refine Calls.mono (print_c _ ⟨_, _⟩ (by (repeat (first | assumption | with_reducible apply Tab.more | with_reducible apply Tab.alloc | with_reducible apply Tab.drew | with_reducible apply Tab.drewN)))) ?_); rintro e w' ⟨rfl, r, rfl⟩) | (go_at_call 6; (with_reducible refine (read_c _ (by (try simp only [size_bs]); omega) _).mono ?_); rintro e w' ⟨rfl, r, rfl⟩) | (go_at_call 7; (with_reducible refine Calls.mono (known9_c _ (by (repeat (first | assumption | with_reducible apply Tab.more | with_reducible apply Tab.alloc | with_reducible apply Tab.drew | with_reducible apply Tab.drewN)))) ?_); rintro e w' ⟨rfl, r, rfl⟩) | (go_at_call 8; (with_reducible refine (decIv_c _ _).mono ?_); rintro e w' ⟨rfl, r, rfl⟩) | (go_at_call 8; (with_reducible refine (decIv_c ⟨_, _⟩ _).mono ?_); rintro e w' ⟨rfl, r, rfl⟩) | (go_at_call 11; (with_reducible refine Calls.mono (print_c _ _ (by (repeat (first | assumption | with_reducible apply Tab.more | with_reducible apply Tab.alloc | with_reducible apply Tab.drew | with_reducible apply Tab.drewN)))) ?_); rintro e w' ⟨rfl, r, rfl⟩) | (go_at_call 11; (with_reducible refine Calls.mono (print_c _ ⟨_, _⟩ (by (repeat (first | assumption | with_reducible apply Tab.more | with_reducible apply Tab.alloc | with_reducible apply Tab.drew | with_reducible apply Tab.drewN)))) ?_); rintro e w' ⟨rfl, r, rfl⟩) | (go_at_call 12; (with_reducible refine (decRight_c _ _).mono ?_); rintro e w' ⟨rfl, r, rfl⟩) | (go_at_call 12; (with_reducible refine (decRight_c ⟨_, _⟩ _).mono ?_); rintro e w' ⟨rfl, r, rfl⟩) | (go_at_call 16; (with_reducible refine (pick_c _ _ (by omega) (by omega) (by omega) (by omega) _).mono ?_); rintro e w' ⟨rfl, rfl⟩) | (go_at_call 21; (with_reducible refine (digits8_c _ (by omega) (by omega) _).mono ?_); rintro e w' ⟨rfl, r, rfl⟩) | (go_at_call 22; (with_reducible refine (right_c _ _).mono ?_); rintro e w' ⟨rfl, r, rfl⟩) | (go_at_call 22; (with_reducible refine (right_c ⟨_, _, _⟩ _).mono ?_); rintro e w' ⟨rfl, r, rfl⟩))
    all_goals (try simp only [List.append_eq, List.cons_append, List.nil_append])
    go_wp2_with (first | (go_at_call 6; (with_reducible refine Calls.mono (readPrint_c _ q2 _) ?_); rintro e w' ⟨rfl, r, rfl⟩) | (go_at_call 6; (with_reducible refine Calls.mono (read_c _ (by first | omega | (simp <;> omega)) _) ?_); rintro e w' ⟨rfl, r, rfl⟩) | (go_at_call 11; (with_reducible refine Calls.mono (print_c _ ⟨_, _⟩ (by (repeat (first | assumption | with_reducible apply Tab.more | with_reducible apply Tab.alloc | with_reducible apply Tab.drew | with_reducible apply Tab.drewN)))) ?_); rintro e w' ⟨rfl, r, rfl⟩) | (go_at_call 6; (with_reducible refine (read_c _ (by (try simp only [size_bs]); omega) _).mono ?_); rintro e w' ⟨rfl, r, rfl⟩) | (go_at_call 7; (with_reducible refine Calls.mono (known9_c _ (by (repeat (first | assumption | with_reducible apply Tab.more | with_reducible apply Tab.alloc | with_reducible apply Tab.drew | with_reducible apply Tab.drewN)))) ?_); rintro e w' ⟨rfl, r, rfl⟩) | (go_at_call 8; (with_reducible refine (decIv_c _ _).mono ?_); rintro e w' ⟨rfl, r, rfl⟩) | (go_at_call 8; (with_reducible refine (decIv_c ⟨_, _⟩ _).mono ?_); rintro e w' ⟨rfl, r, rfl⟩) | (go_at_call 11; (with_reducible refine Calls.mono (print_c _ _ (by (repeat (first | assumption | with_reducible apply Tab.more | with_reducible apply Tab.alloc | with_reducible apply Tab.drew | with_reducible apply Tab.drewN)))) ?_); rintro e w' ⟨rfl, r, rfl⟩) | (go_at_call 11; (with_reducible refine Calls.mono (print_c _ ⟨_, _⟩ (by (repeat (first | assumption | with_reducible apply Tab.more | with_reducible apply Tab.alloc | with_reducible apply Tab.drew | with_reducible apply Tab.drewN)))) ?_); rintro e w' ⟨rfl, r, rfl⟩) | (go_at_call 12; (with_reducible refine (decRight_c _ _).mono ?_); rintro e w' ⟨rfl, r, rfl⟩) | (go_at_call 12; (with_reducible refine (decRight_c ⟨_, _⟩ _).mono ?_); rintro e w' ⟨rfl, r, rfl⟩) | (go_at_call 16; (with_reducible refine (pick_c _ _ (by omega) (by omega) (by omega) (by omega) _).mono ?_); rintro e w' ⟨rfl, rfl⟩) | (go_at_call 21; (with_reducible refine (digits8_c _ (by omega) (by omega) _).mono ?_); rintro e w' ⟨rfl, r, rfl⟩) | (go_at_call 22; (with_reducible refine (right_c _ _).mono ?_); rintro e w' ⟨rfl, r, rfl⟩) | (go_at_call 22; (with_reducible refine (right_c ⟨_, _, _⟩ _).mono ?_); rintro e w' ⟨rfl, r, rfl⟩))
    refine wp_loop_rounds 1 ?_
    rw [rounds_succ]
    refine at_world (w := w) (R := fun W => Tab W) (by repeat (first | exact More.refl _ | refine More.alloc ?_ _ | refine More.more ?_ _ | refine More.drew ?_ | refine More.drewN ?_ _)) (by (repeat (first | assumption | with_reducible apply Tab.more | with_reducible apply Tab.alloc | with_reducible apply Tab.drew | with_reducible apply Tab.drewN))) ?_
    rintro W1 hM1 ht1
    clear ht
    obtain ⟨L, hL⟩ : ∃ L, A = L := ⟨_, rfl⟩
    subst hL
    go_wp2_with (first | (go_at_call 6; (with_reducible refine Calls.mono (readPrint_c _ q2 _) ?_); rintro e w' ⟨rfl, r, rfl⟩) | (go_at_call 6; (with_reducible refine Calls.mono (read_c _ (by first | omega | (simp <;> omega)) _) ?_); rintro e w' ⟨rfl, r, rfl⟩) | (go_at_call 11; (with_reducible refine Calls.mono (print_c _ ⟨_, _⟩ (by (repeat (first | assumption | with_reducible apply Tab.more | with_reducible apply Tab.alloc | with_reducible apply Tab.drew | with_reducible apply Tab.drewN)))) ?_); rintro e w' ⟨rfl, r, rfl⟩) | (go_at_call 6; (with_reducible refine (read_c _ (by (try simp only [size_bs]); omega) _).mono ?_); rintro e w' ⟨rfl, r, rfl⟩) | (go_at_call 7; (with_reducible refine Calls.mono (known9_c _ (by (repeat (first | assumption | with_reducible apply Tab.more | with_reducible apply Tab.alloc | with_reducible apply Tab.drew | with_reducible apply Tab.drewN)))) ?_); rintro e w' ⟨rfl, r, rfl⟩) | (go_at_call 8; (with_reducible refine (decIv_c _ _).mono ?_); rintro e w' ⟨rfl, r, rfl⟩) | (go_at_call 8; (with_reducible refine (decIv_c ⟨_, _⟩ _).mono ?_); rintro e w' ⟨rfl, r, rfl⟩) | (go_at_call 11; (with_reducible refine Calls.mono (print_c _ _ (by (repeat (first | assumption | with_reducible apply Tab.more | with_reducible apply Tab.alloc | with_reducible apply Tab.drew | with_reducible apply Tab.drewN)))) ?_); rintro e w' ⟨rfl, r, rfl⟩) | (go_at_call 11; (with_reducible refine Calls.mono (print_c _ ⟨_, _⟩ (by (repeat (first | assumption | with_reducible apply Tab.more | with_reducible apply Tab.alloc | with_reducible apply Tab.drew | with_reducible apply Tab.drewN)))) ?_); rintro e w' ⟨rfl, r, rfl⟩) | (go_at_call 12; (with_reducible refine (decRight_c _ _).mono ?_); rintro e w' ⟨rfl, r, rfl⟩) | (go_at_call 12; (with_reducible refine (decRight_c ⟨_, _⟩ _).mono ?_); rintro e w' ⟨rfl, r, rfl⟩) | (go_at_call 16; (with_reducible refine (pick_c _ _ (by omega) (by omega) (by omega) (by omega) _).mono ?_); rintro e w' ⟨rfl, rfl⟩) | (go_at_call 21; (with_reducible refine (digits8_c _ (by omega) (by omega) _).mono ?_); rintro e w' ⟨rfl, r, rfl⟩) | (go_at_call 22; (with_reducible refine (right_c _ _).mono ?_); rintro e w' ⟨rfl, r, rfl⟩) | (go_at_call 22; (with_reducible refine (right_c ⟨_, _, _⟩ _).mono ?_); rintro e w' ⟨rfl, r, rfl⟩))
    go_loopw [16] (fun v wr => ∃ i : Nat, i ≤ A.length ∧ v = .int .i64 (valL (A.take i)) ∧ wr = W1.iter (bsOf A) i) (fun _ wr => A.length - iterAt wr W1.heap.size)
    case atStart => exact ⟨0, by omega, rfl, rfl⟩
    case round =>
      obtain ⟨i, hiL, rfl, rfl⟩ := hrel
      have hvb := valL_take_small A i HA.out (by omega)
      by_cases hi : i < A.length
      · obtain ⟨e, d1, d2⟩ := valL_next A i hi HA.out
        have HE := Lib.hid e
        clear e
        have hnx : ∀ ty, _ := fun ty => next_digit W1 A i ty hi d2
        go_wp2_with (first | (go_at_call 6; (with_reducible refine Calls.mono (readPrint_c _ q2 _) ?_); rintro e w' ⟨rfl, r, rfl⟩) | (go_at_call 6; (with_reducible refine Calls.mono (read_c _ (by first | omega | (simp <;> omega)) _) ?_); rintro e w' ⟨rfl, r, rfl⟩) | (go_at_call 11; (with_reducible refine Calls.mono (print_c _ ⟨_, _⟩ (by (repeat (first | assumption | with_reducible apply Tab.more | with_reducible apply Tab.alloc | with_reducible apply Tab.drew | with_reducible apply Tab.drewN)))) ?_); rintro e w' ⟨rfl, r, rfl⟩) | (go_at_call 6; (with_reducible refine (read_c _ (by (try simp only [size_bs]); omega) _).mono ?_); rintro e w' ⟨rfl, r, rfl⟩) | (go_at_call 7; (with_reducible refine Calls.mono (known9_c _ (by (repeat (first | assumption | with_reducible apply Tab.more | with_reducible apply Tab.alloc | with_reducible apply Tab.drew | with_reducible apply Tab.drewN)))) ?_); rintro e w' ⟨rfl, r, rfl⟩) | (go_at_call 8; (with_reducible refine (decIv_c _ _).mono ?_); rintro e w' ⟨rfl, r, rfl⟩) | (go_at_call 8; (with_reducible refine (decIv_c ⟨_, _⟩ _).mono ?_); rintro e w' ⟨rfl, r, rfl⟩) | (go_at_call 11; (with_reducible refine Calls.mono (print_c _ _ (by (repeat (first | assumption | with_reducible apply Tab.more | with_reducible apply Tab.alloc | with_reducible apply Tab.drew | with_reducible apply Tab.drewN)))) ?_); rintro e w' ⟨rfl, r, rfl⟩) | (go_at_call 11; (with_reducible refine Calls.mono (print_c _ ⟨_, _⟩ (by (repeat (first | assumption | with_reducible apply Tab.more | with_reducible apply Tab.alloc | with_reducible apply Tab.drew | with_reducible apply Tab.drewN)))) ?_); rintro e w' ⟨rfl, r, rfl⟩) | (go_at_call 12; (with_reducible refine (decRight_c _ _).mono ?_); rintro e w' ⟨rfl, r, rfl⟩) | (go_at_call 12; (with_reducible refine (decRight_c ⟨_, _⟩ _).mono ?_); rintro e w' ⟨rfl, r, rfl⟩) | (go_at_call 16; (with_reducible refine (pick_c _ _ (by omega) (by omega) (by omega) (by omega) _).mono ?_); rintro e w' ⟨rfl, rfl⟩) | (go_at_call 21; (with_reducible refine (digits8_c _ (by omega) (by omega) _).mono ?_); rintro e w' ⟨rfl, r, rfl⟩) | (go_at_call 22; (with_reducible refine (right_c _ _).mono ?_); rintro e w' ⟨rfl, r, rfl⟩) | (go_at_call 22; (with_reducible refine (right_c ⟨_, _, _⟩ _).mono ?_); rintro e w' ⟨rfl, r, rfl⟩))
        go_roundw
        case rel => exact ⟨i + 1, by omega, by rw [HE.out], rfl⟩
        case measure => rw [iterAt_is, iterAt_is]; omega
      · have hie : A.length = i := by omega
        subst hie
        rw [List.take_length] at hvb ⊢
        have hnx : ∀ ty, _ := fun ty => next_none W1 A ty
        have hV : valL A < 1000 := by have := valL_lt A HA.out; rw [hAl] at this; exact this
        obtain ⟨c, hc⟩ : ∃ c, c = valL A := ⟨_, rfl⟩
        have D1 := dec_facts0 (valL A) c hc hV
        have r0 := read_pl A HA.out (by omega) (by omega)
        rw [← hc] at r0
        have hcV : valL A ≠ 0 → c ≠ 0 := by rw [hc]; exact id
        clear hc
        clear hV hS7 hA hQ hSl hQl hQ4 hDt hiL hi HA hN hM hMb lN
        generalize valL A = V at *
        have HAl := Lib.hid hAl
        have hAb : A.length ≤ 5 := by omega
        clear hAl
        have r01 := r0.1
        cases a3
        · obtain ⟨lo, hi, q1, q2, q3, q4, q5, q6, q7, q8, q9⟩ := D1 false
          simp only [Bool.false_eq_true, reduceIte] at q1 q2 q3 q5 q6
          clear D1 r0 hcV
          go_wp2_with fail
          refine at_calls (w := w) (R := fun W => Tab W) (hM1.alloc _) (Tab.alloc ht1) ?_
          rintro W2 hM2 ht2
          have HM := Lib.hid hM2
          clear ht1 hM1 hM2 hnx
          have hAl := HAl.out
          go_wp2_with (first | (go_at_call 6; (with_reducible refine Calls.mono (readPrint_c _ q2 _) ?_); rintro e w' ⟨rfl, r, rfl⟩) | (go_at_call 6; (with_reducible refine Calls.mono (read_c _ (by first | omega | (simp <;> omega)) _) ?_); rintro e w' ⟨rfl, r, rfl⟩) | (go_at_call 11; (with_reducible refine Calls.mono (print_c _ ⟨_, _⟩ (by (repeat (first | assumption | with_reducible apply Tab.more | with_reducible apply Tab.alloc | with_reducible apply Tab.drew | with_reducible apply Tab.drewN)))) ?_); rintro e w' ⟨rfl, r, rfl⟩) | (go_at_call 7; (with_reducible refine Calls.mono (known9_c _ (by (repeat (first | assumption | with_reducible apply Tab.more | with_reducible apply Tab.alloc | with_reducible apply Tab.drew | with_reducible apply Tab.drewN)))) ?_); rintro e w' ⟨rfl, r, rfl⟩) | (go_at_call 8; (with_reducible refine (decIv_c _ _).mono ?_); rintro e w' ⟨rfl, r, rfl⟩) | (go_at_call 8; (with_reducible refine (decIv_c ⟨_, _⟩ _).mono ?_); rintro e w' ⟨rfl, r, rfl⟩) | (go_at_call 12; (with_reducible refine (decRight_c _ _).mono ?_); rintro e w' ⟨rfl, r, rfl⟩) | (go_at_call 12; (with_reducible refine (decRight_c ⟨_, _⟩ _).mono ?_); rintro e w' ⟨rfl, r, rfl⟩) | (go_at_call 16; (with_reducible refine (pick_c _ _ (by omega) (by omega) (by omega) (by omega) _).mono ?_); rintro e w' ⟨rfl, rfl⟩) | (go_at_call 22; (with_reducible refine (right_c _ _).mono ?_); rintro e w' ⟨rfl, r, rfl⟩) | (go_at_call 22; (with_reducible refine (right_c ⟨_, _, _⟩ _).mono ?_); rintro e w' ⟨rfl, r, rfl⟩))
          go_returns
          exact ⟨rfl, HM.out.trans (by repeat (first | exact More.refl _ | refine More.alloc ?_ _ | refine More.more ?_ _ | refine More.drew ?_ | refine More.drewN ?_ _))⟩
        · by_cases hV0 : V = 0
          · subst hV0
            obtain ⟨lo, hi, q1, q2, q3, q4, q5, q6, q7, q8, q9⟩ := D1 false
            simp only [Bool.false_eq_true, reduceIte] at q1 q2 q3 q5 q6
            clear D1 r0 hcV
            go_wp2_with fail
            refine at_calls (w := w) (R := fun W => Tab W) (hM1.alloc _) (Tab.alloc ht1) ?_
            rintro W2 hM2 ht2
            have HM := Lib.hid hM2
            clear ht1 hM1 hM2 hnx
            have hAl := HAl.out
            go_wp2_with (first | (go_at_call 6; (with_reducible refine Calls.mono (readPrint_c _ q2 _) ?_); rintro e w' ⟨rfl, r, rfl⟩) | (go_at_call 6; (with_reducible refine Calls.mono (read_c _ (by first | omega | (simp <;> omega)) _) ?_); rintro e w' ⟨rfl, r, rfl⟩) | (go_at_call 11; (with_reducible refine Calls.mono (print_c _ ⟨_, _⟩ (by (repeat (first | assumption | with_reducible apply Tab.more | with_reducible apply Tab.alloc | with_reducible apply Tab.drew | with_reducible apply Tab.drewN)))) ?_); rintro e w' ⟨rfl, r, rfl⟩) | (go_at_call 7; (with_reducible refine Calls.mono (known9_c _ (by (repeat (first | assumption | with_reducible apply Tab.more | with_reducible apply Tab.alloc | with_reducible apply Tab.drew | with_reducible apply Tab.drewN)))) ?_); rintro e w' ⟨rfl, r, rfl⟩) | (go_at_call 8; (with_reducible refine (decIv_c _ _).mono ?_); rintro e w' ⟨rfl, r, rfl⟩) | (go_at_call 8; (with_reducible refine (decIv_c ⟨_, _⟩ _).mono ?_); rintro e w' ⟨rfl, r, rfl⟩) | (go_at_call 12; (with_reducible refine (decRight_c _ _).mono ?_); rintro e w' ⟨rfl, r, rfl⟩) | (go_at_call 12; (with_reducible refine (decRight_c ⟨_, _⟩ _).mono ?_); rintro e w' ⟨rfl, r, rfl⟩) | (go_at_call 16; (with_reducible refine (pick_c _ _ (by omega) (by omega) (by omega) (by omega) _).mono ?_); rintro e w' ⟨rfl, rfl⟩) | (go_at_call 22; (with_reducible refine (right_c _ _).mono ?_); rintro e w' ⟨rfl, r, rfl⟩) | (go_at_call 22; (with_reducible refine (right_c ⟨_, _, _⟩ _).mono ?_); rintro e w' ⟨rfl, r, rfl⟩))
            go_returns
            exact ⟨rfl, HM.out.trans (by repeat (first | exact More.refl _ | refine More.alloc ?_ _ | refine More.more ?_ _ | refine More.drew ?_ | refine More.drewN ?_ _))⟩
          · obtain ⟨lo, hi, q1, q2, q3, q4, q5, q6, q7, q8, q9⟩ := D1 true
            simp only [reduceIte] at q1 q2 q3 q5 q6
            have s01 := r0.2 (hcV hV0)
            have hV1 : 0 < V := by omega
            have Q5 := Lib.hid q5
            have Q6 := Lib.hid q6
            clear D1 r0 r01 hV0 hcV q5 q6
            go_wp2_with fail
            refine at_calls (w := w) (R := fun W => Tab W) (hM1.alloc _) (Tab.alloc ht1) ?_
            rintro W2 hM2 ht2
            have HM := Lib.hid hM2
            clear ht1 hM1 hM2 hnx
            have hAl := HAl.out
            have q5 := Q5.out
            have q6 := Q6.out
            go_wp2_with (first | (go_at_call 6; (with_reducible refine Calls.mono (readPrint_c _ q2 _) ?_); rintro e w' ⟨rfl, r, rfl⟩) | (go_at_call 6; (with_reducible refine Calls.mono (read_c _ (by first | omega | (simp <;> omega)) _) ?_); rintro e w' ⟨rfl, r, rfl⟩) | (go_at_call 11; (with_reducible refine Calls.mono (print_c _ ⟨_, _⟩ (by (repeat (first | assumption | with_reducible apply Tab.more | with_reducible apply Tab.alloc | with_reducible apply Tab.drew | with_reducible apply Tab.drewN)))) ?_); rintro e w' ⟨rfl, r, rfl⟩) | (go_at_call 7; (with_reducible refine Calls.mono (known9_c _ (by (repeat (first | assumption | with_reducible apply Tab.more | with_reducible apply Tab.alloc | with_reducible apply Tab.drew | with_reducible apply Tab.drewN)))) ?_); rintro e w' ⟨rfl, r, rfl⟩) | (go_at_call 8; (with_reducible refine (decIv_c _ _).mono ?_); rintro e w' ⟨rfl, r, rfl⟩) | (go_at_call 8; (with_reducible refine (decIv_c ⟨_, _⟩ _).mono ?_); rintro e w' ⟨rfl, r, rfl⟩) | (go_at_call 12; (with_reducible refine (decRight_c _ _).mono ?_); rintro e w' ⟨rfl, r, rfl⟩) | (go_at_call 12; (with_reducible refine (decRight_c ⟨_, _⟩ _).mono ?_); rintro e w' ⟨rfl, r, rfl⟩) | (go_at_call 16; (with_reducible refine (pick_c _ _ (by omega) (by omega) (by omega) (by omega) _).mono ?_); rintro e w' ⟨rfl, rfl⟩) | (go_at_call 22; (with_reducible refine (right_c _ _).mono ?_); rintro e w' ⟨rfl, r, rfl⟩) | (go_at_call 22; (with_reducible refine (right_c ⟨_, _, _⟩ _).mono ?_); rintro e w' ⟨rfl, r, rfl⟩))
            go_returns
            exact ⟨rfl, HM.out.trans (by repeat (first | exact More.refl _ | refine More.alloc ?_ _ | refine More.more ?_ _ | refine More.drew ?_ | refine More.drewN ?_ _))⟩
  · have hK1 : 1 ≤ K := by omega
    go_enter Tryd.func5, Tryd.ntmps5
    go_wp2_with (first | (go_at_call 6; (with_reducible refine Calls.mono (readPrint_c _ q2 _) ?_); rintro e w' ⟨rfl, r, rfl⟩) | (go_at_call 6; (with_reducible refine Calls.mono (read_c _ (by first | omega | (simp <;> omega)) _) ?_); rintro e w' ⟨rfl, r, rfl⟩) | (go_at_call 11; (with_reducible refine Calls.mono (print_c _ ⟨_, _⟩ (by (repeat (first | assumption | with_reducible apply Tab.more | with_reducible apply Tab.alloc | with_reducible apply Tab.drew | with_reducible apply Tab.drewN)))) ?_); rintro e w' ⟨rfl, r, rfl⟩) | (go_at_call 6; (with_reducible refine (read_c _ (by (try simp only [size_bs]); omega) _).mono ?_); rintro e w' ⟨rfl, r, rfl⟩) | (go_at_call 7; (with_reducible refine Calls.mono (known9_c _ (by (repeat (first | assumption | with_reducible apply Tab.more | with_reducible apply Tab.alloc | with_reducible apply Tab.drew | with_reducible apply Tab.drewN)))) ?_); rintro e w' ⟨rfl, r, rfl⟩) | (go_at_call 8; (with_reducible refine (decIv_c _ _).mono ?_); rintro e w' ⟨rfl, r, rfl⟩) | (go_at_call 8; (with_reducible refine (decIv_c ⟨_, _⟩ _).mono ?_); rintro e w' ⟨rfl, r, rfl⟩) | (go_at_call 11; (with_reducible refine Calls.mono (print_c _ _ (by (repeat (first | assumption | with_reducible apply Tab.more | with_reducible apply Tab.alloc | with_reducible apply Tab.drew | with_reducible apply Tab.drewN)))) ?_); rintro e w' ⟨rfl, r, rfl⟩) | (go_at_call 11; (with_reducible refine Calls.mono (print_c _ ⟨_, _⟩ (by (repeat (first | assumption | with_reducible apply Tab.more | with_reducible apply Tab.alloc | with_reducible apply Tab.drew | with_reducible apply Tab.drewN)))) ?_); rintro e w' ⟨rfl, r, rfl⟩) | (go_at_call 12; (with_reducible refine (decRight_c _ _).mono ?_); rintro e w' ⟨rfl, r, rfl⟩) | (go_at_call 12; (with_reducible refine (decRight_c ⟨_, _⟩ _).mono ?_); rintro e w' ⟨rfl, r, rfl⟩) | (go_at_call 16; (with_reducible refine (pick_c _ _ (by omega) (by omega) (by omega) (by omega) _).mono ?_); rintro e w' ⟨rfl, rfl⟩) | (go_at_call 21; (with_reducible refine (digits8_c _ (by omega) (by omega) _).mono ?_); rintro e w' ⟨rfl, r, rfl⟩) | (go_at_call 22; (with_reducible refine (right_c _ _).mono ?_); rintro e w' ⟨rfl, r, rfl⟩) | (go_at_call 22; (with_reducible refine (right_c ⟨_, _, _⟩ _).mono ?_); rintro e w' ⟨rfl, r, rfl⟩))
    all_goals (try simp only [List.append_eq, List.cons_append, List.nil_append])
    go_wp2_with (first | (go_at_call 6; (with_reducible refine Calls.mono (readPrint_c _ q2 _) ?_); rintro e w' ⟨rfl, r, rfl⟩) | (go_at_call 6; (with_reducible refine Calls.mono (read_c _ (by first | omega | (simp <;> omega)) _) ?_); rintro e w' ⟨rfl, r, rfl⟩) | (go_at_call 11; (with_reducible refine Calls.mono (print_c _ ⟨_, _⟩ (by (repeat (first | assumption | with_reducible apply Tab.more | with_reducible apply Tab.alloc | with_reducible apply Tab.drew | with_reducible apply Tab.drewN)))) ?_); rintro e w' ⟨rfl, r, rfl⟩) | (go_at_call 6; (with_reducible refine (read_c _ (by (try simp only [size_bs]); omega) _).mono ?_); rintro e w' ⟨rfl, r, rfl⟩) | (go_at_call 7; (with_reducible refine Calls.mono (known9_c _ (by (repeat (first | assumption | with_reducible apply Tab.more | with_reducible apply Tab.alloc | with_reducible apply Tab.drew | with_reducible apply Tab.drewN)))) ?_); rintro e w' ⟨rfl, r, rfl⟩) | (go_at_call 8; (with_reducible refine (decIv_c _ _).mono ?_); rintro e w' ⟨rfl, r, rfl⟩) | (go_at_call 8; (with_reducible refine (decIv_c ⟨_, _⟩ _).mono ?_); rintro e w' ⟨rfl, r, rfl⟩) | (go_at_call 11; (with_reducible refine Calls.mono (print_c _ _ (by (repeat (first | assumption | with_reducible apply Tab.more | with_reducible apply Tab.alloc | with_reducible apply Tab.drew | with_reducible apply Tab.drewN)))) ?_); rintro e w' ⟨rfl, r, rfl⟩) | (go_at_call 11; (with_reducible refine Calls.mono (print_c _ ⟨_, _⟩ (by (repeat (first | assumption | with_reducible apply Tab.more | with_reducible apply Tab.alloc | with_reducible apply Tab.drew | with_reducible apply Tab.drewN)))) ?_); rintro e w' ⟨rfl, r, rfl⟩) | (go_at_call 12; (with_reducible refine (decRight_c _ _).mono ?_); rintro e w' ⟨rfl, r, rfl⟩) | (go_at_call 12; (with_reducible refine (decRight_c ⟨_, _⟩ _).mono ?_); rintro e w' ⟨rfl, r, rfl⟩) | (go_at_call 16; (with_reducible refine (pick_c _ _ (by omega) (by omega) (by omega) (by omega) _).mono ?_); rintro e w' ⟨rfl, rfl⟩) | (go_at_call 21; (with_reducible refine (digits8_c _ (by omega) (by omega) _).mono ?_); rintro e w' ⟨rfl, r, rfl⟩) | (go_at_call 22; (with_reducible refine (right_c _ _).mono ?_); rintro e w' ⟨rfl, r, rfl⟩) | (go_at_call 22; (with_reducible refine (right_c ⟨_, _, _⟩ _).mono ?_); rintro e w' ⟨rfl, r, rfl⟩))
    go_loop [14, 15] (fun p i => ∃ j : Nat, j ≤ K ∧ i = .int .i64 j ∧ p = .int .i64 (p10 j)) (fun _ i => K - (intOf i).toNat)
    case atStart => exact ⟨0, by omega, rfl, rfl⟩
    case round =>
      obtain ⟨j, hjK, rfl, rfl⟩ := hrel
      have hpb := p10_bd j (by omega)
      by_cases hj : j < K
      · have HP := Lib.hid (p10_next j)
        go_wp2_with (first | (go_at_call 6; (with_reducible refine Calls.mono (readPrint_c _ q2 _) ?_); rintro e w' ⟨rfl, r, rfl⟩) | (go_at_call 6; (with_reducible refine Calls.mono (read_c _ (by first | omega | (simp <;> omega)) _) ?_); rintro e w' ⟨rfl, r, rfl⟩) | (go_at_call 11; (with_reducible refine Calls.mono (print_c _ ⟨_, _⟩ (by (repeat (first | assumption | with_reducible apply Tab.more | with_reducible apply Tab.alloc | with_reducible apply Tab.drew | with_reducible apply Tab.drewN)))) ?_); rintro e w' ⟨rfl, r, rfl⟩) | (go_at_call 6; (with_reducible refine (read_c _ (by (try simp only [size_bs]); omega) _).mono ?_); rintro e w' ⟨rfl, r, rfl⟩) | (go_at_call 7; (with_reducible refine Calls.mono (known9_c _ (by (repeat (first | assumption | with_reducible apply Tab.more | with_reducible apply Tab.alloc | with_reducible apply Tab.drew | with_reducible apply Tab.drewN)))) ?_); rintro e w' ⟨rfl, r, rfl⟩) | (go_at_call 8; (with_reducible refine (decIv_c _ _).mono ?_); rintro e w' ⟨rfl, r, rfl⟩) | (go_at_call 8; (with_reducible refine (decIv_c ⟨_, _⟩ _).mono ?_); rintro e w' ⟨rfl, r, rfl⟩) | (go_at_call 11; (with_reducible refine Calls.mono (print_c _ _ (by (repeat (first | assumption | with_reducible apply Tab.more | with_reducible apply Tab.alloc | with_reducible apply Tab.drew | with_reducible apply Tab.drewN)))) ?_); rintro e w' ⟨rfl, r, rfl⟩) | (go_at_call 11; (with_reducible refine Calls.mono (print_c _ ⟨_, _⟩ (by (repeat (first | assumption | with_reducible apply Tab.more | with_reducible apply Tab.alloc | with_reducible apply Tab.drew | with_reducible apply Tab.drewN)))) ?_); rintro e w' ⟨rfl, r, rfl⟩) | (go_at_call 12; (with_reducible refine (decRight_c _ _).mono ?_); rintro e w' ⟨rfl, r, rfl⟩) | (go_at_call 12; (with_reducible refine (decRight_c ⟨_, _⟩ _).mono ?_); rintro e w' ⟨rfl, r, rfl⟩) | (go_at_call 16; (with_reducible refine (pick_c _ _ (by omega) (by omega) (by omega) (by omega) _).mono ?_); rintro e w' ⟨rfl, rfl⟩) | (go_at_call 21; (with_reducible refine (digits8_c _ (by omega) (by omega) _).mono ?_); rintro e w' ⟨rfl, r, rfl⟩) | (go_at_call 22; (with_reducible refine (right_c _ _).mono ?_); rintro e w' ⟨rfl, r, rfl⟩) | (go_at_call 22; (with_reducible refine (right_c ⟨_, _, _⟩ _).mono ?_); rintro e w' ⟨rfl, r, rfl⟩))
        go_round
        case rel => exact ⟨j + 1, by omega, by go_num, by rw [HP.out, Int.mul_comm]⟩
        case measure => simp [intOf]; omega
      · have hjK2 : K = j := by omega
        subst hjK2
        clear hj hjK
        refine at_world (w := w) (R := fun W => Tab W) (by repeat (first | exact More.refl _ | refine More.alloc ?_ _ | refine More.more ?_ _ | refine More.drew ?_ | refine More.drewN ?_ _)) (by (repeat (first | assumption | with_reducible apply Tab.more | with_reducible apply Tab.alloc | with_reducible apply Tab.drew | with_reducible apply Tab.drewN))) ?_
        rintro W1 hM1 ht1
        clear ht
        obtain ⟨L, hL⟩ : ∃ L, A ++ R = L := ⟨_, rfl⟩
        have hLl : L.length = 3 + K := by rw [← hL, List.length_append]; omega
        have HL := Lib.hid (show L.all isD = true from by rw [← hL, List.all_append, HA.out, HR.out]; rfl)
        go_wp2_with (first | (go_at_call 6; (with_reducible refine Calls.mono (readPrint_c _ q2 _) ?_); rintro e w' ⟨rfl, r, rfl⟩) | (go_at_call 6; (with_reducible refine Calls.mono (read_c _ (by first | omega | (simp <;> omega)) _) ?_); rintro e w' ⟨rfl, r, rfl⟩) | (go_at_call 11; (with_reducible refine Calls.mono (print_c _ ⟨_, _⟩ (by (repeat (first | assumption | with_reducible apply Tab.more | with_reducible apply Tab.alloc | with_reducible apply Tab.drew | with_reducible apply Tab.drewN)))) ?_); rintro e w' ⟨rfl, r, rfl⟩) | (go_at_call 6; (with_reducible refine (read_c _ (by (try simp only [size_bs]); omega) _).mono ?_); rintro e w' ⟨rfl, r, rfl⟩) | (go_at_call 7; (with_reducible refine Calls.mono (known9_c _ (by (repeat (first | assumption | with_reducible apply Tab.more | with_reducible apply Tab.alloc | with_reducible apply Tab.drew | with_reducible apply Tab.drewN)))) ?_); rintro e w' ⟨rfl, r, rfl⟩) | (go_at_call 8; (with_reducible refine (decIv_c _ _).mono ?_); rintro e w' ⟨rfl, r, rfl⟩) | (go_at_call 8; (with_reducible refine (decIv_c ⟨_, _⟩ _).mono ?_); rintro e w' ⟨rfl, r, rfl⟩) | (go_at_call 11; (with_reducible refine Calls.mono (print_c _ _ (by (repeat (first | assumption | with_reducible apply Tab.more | with_reducible apply Tab.alloc | with_reducible apply Tab.drew | with_reducible apply Tab.drewN)))) ?_); rintro e w' ⟨rfl, r, rfl⟩) | (go_at_call 11; (with_reducible refine Calls.mono (print_c _ ⟨_, _⟩ (by (repeat (first | assumption | with_reducible apply Tab.more | with_reducible apply Tab.alloc | with_reducible apply Tab.drew | with_reducible apply Tab.drewN)))) ?_); rintro e w' ⟨rfl, r, rfl⟩) | (go_at_call 12; (with_reducible refine (decRight_c _ _).mono ?_); rintro e w' ⟨rfl, r, rfl⟩) | (go_at_call 12; (with_reducible refine (decRight_c ⟨_, _⟩ _).mono ?_); rintro e w' ⟨rfl, r, rfl⟩) | (go_at_call 16; (with_reducible refine (pick_c _ _ (by omega) (by omega) (by omega) (by omega) _).mono ?_); rintro e w' ⟨rfl, rfl⟩) | (go_at_call 21; (with_reducible refine (digits8_c _ (by omega) (by omega) _).mono ?_); rintro e w' ⟨rfl, r, rfl⟩) | (go_at_call 22; (with_reducible refine (right_c _ _).mono ?_); rintro e w' ⟨rfl, r, rfl⟩) | (go_at_call 22; (with_reducible refine (right_c ⟨_, _, _⟩ _).mono ?_); rintro e w' ⟨rfl, r, rfl⟩))
        go_loopw [16] (fun v wr => ∃ i : Nat, i ≤ L.length ∧ v = .int .i64 (valL (L.take i)) ∧ wr = W1.iter (bsOf L) i) (fun _ wr => L.length - iterAt wr W1.heap.size)
        case atStart => exact ⟨0, by omega, rfl, rfl⟩
        case round =>
          obtain ⟨i, hiL, rfl, rfl⟩ := hrel
          have hvb := valL_take_small L i HL.out (by omega)
          by_cases hi : i < L.length
          · obtain ⟨e, d1, d2⟩ := valL_next L i hi HL.out
            have HE := Lib.hid e
            clear e
            have hnx : ∀ ty, _ := fun ty => next_digit W1 L i ty hi d2
            go_wp2_with (first | (go_at_call 6; (with_reducible refine Calls.mono (readPrint_c _ q2 _) ?_); rintro e w' ⟨rfl, r, rfl⟩) | (go_at_call 6; (with_reducible refine Calls.mono (read_c _ (by first | omega | (simp <;> omega)) _) ?_); rintro e w' ⟨rfl, r, rfl⟩) | (go_at_call 11; (with_reducible refine Calls.mono (print_c _ ⟨_, _⟩ (by (repeat (first | assumption | with_reducible apply Tab.more | with_reducible apply Tab.alloc | with_reducible apply Tab.drew | with_reducible apply Tab.drewN)))) ?_); rintro e w' ⟨rfl, r, rfl⟩) | (go_at_call 6; (with_reducible refine (read_c _ (by (try simp only [size_bs]); omega) _).mono ?_); rintro e w' ⟨rfl, r, rfl⟩) | (go_at_call 7; (with_reducible refine Calls.mono (known9_c _ (by (repeat (first | assumption | with_reducible apply Tab.more | with_reducible apply Tab.alloc | with_reducible apply Tab.drew | with_reducible apply Tab.drewN)))) ?_); rintro e w' ⟨rfl, r, rfl⟩) | (go_at_call 8; (with_reducible refine (decIv_c _ _).mono ?_); rintro e w' ⟨rfl, r, rfl⟩) | (go_at_call 8; (with_reducible refine (decIv_c ⟨_, _⟩ _).mono ?_); rintro e w' ⟨rfl, r, rfl⟩) | (go_at_call 11; (with_reducible refine Calls.mono (print_c _ _ (by (repeat (first | assumption | with_reducible apply Tab.more | with_reducible apply Tab.alloc | with_reducible apply Tab.drew | with_reducible apply Tab.drewN)))) ?_); rintro e w' ⟨rfl, r, rfl⟩) | (go_at_call 11; (with_reducible refine Calls.mono (print_c _ ⟨_, _⟩ (by (repeat (first | assumption | with_reducible apply Tab.more | with_reducible apply Tab.alloc | with_reducible apply Tab.drew | with_reducible apply Tab.drewN)))) ?_); rintro e w' ⟨rfl, r, rfl⟩) | (go_at_call 12; (with_reducible refine (decRight_c _ _).mono ?_); rintro e w' ⟨rfl, r, rfl⟩) | (go_at_call 12; (with_reducible refine (decRight_c ⟨_, _⟩ _).mono ?_); rintro e w' ⟨rfl, r, rfl⟩) | (go_at_call 16; (with_reducible refine (pick_c _ _ (by omega) (by omega) (by omega) (by omega) _).mono ?_); rintro e w' ⟨rfl, rfl⟩) | (go_at_call 21; (with_reducible refine (digits8_c _ (by omega) (by omega) _).mono ?_); rintro e w' ⟨rfl, r, rfl⟩) | (go_at_call 22; (with_reducible refine (right_c _ _).mono ?_); rintro e w' ⟨rfl, r, rfl⟩) | (go_at_call 22; (with_reducible refine (right_c ⟨_, _, _⟩ _).mono ?_); rintro e w' ⟨rfl, r, rfl⟩))
            go_roundw
            case rel => exact ⟨i + 1, by omega, by rw [HE.out], rfl⟩
            case measure => rw [iterAt_is, iterAt_is]; omega
          · have hie : L.length = i := by omega
            subst hie
            rw [List.take_length] at hvb ⊢
            have hnx : ∀ ty, _ := fun ty => next_none W1 L ty
            have hV : valL L < 10 ^ (3 + K) := by have := valL_lt L HL.out; rwa [hLl] at this
            obtain ⟨c, s, hcs⟩ : ∃ c s, canon (valL L) K = (c, s) := ⟨_, _, rfl⟩
            have D1 := dec_facts (valL L) K c s hcs lK hV
            have hVz : valL L ≠ 0 → c ≠ 0 := by
              intro h0 hc
              have := (canon_le (valL L) K).2.2
              rw [hcs] at this
              simp only at this
              rw [hc, Nat.zero_mul] at this
              exact h0 this.symm
            have e1 : canon (valL (A ++ (R ++ [48]))) (R ++ [48]).length = (c, s) := by
              rw [← List.append_assoc, valL_snoc, hL, List.length_append, hRl]
              show canon (10 * valL L + 0) (K + 1) = _
              rw [Nat.add_zero, canon_zero]
              exact hcs
            have e2 : canon (valL (A ++ (R ++ [48, 48]))) (R ++ [48, 48]).length = (c, s) := by
              have : R ++ [48, 48] = (R ++ [48]) ++ [48] := by simp
              rw [this, ← List.append_assoc, valL_snoc, List.length_append, List.length_singleton]
              show canon (10 * valL (A ++ (R ++ [48])) + 0) _ = _
              rw [Nat.add_zero, canon_zero]
              exact e1
            have r0 := read_pt A R HA.out HR.out (by omega) (by omega) (by omega) (by omega) c s (by rw [hL, hRl]; exact hcs)
            have r1 := read_pt A (R ++ [48]) HA.out (by rw [List.all_append, HR.out]; rfl) (by omega) (by omega) (by rw [List.length_append]; simp) (by rw [List.length_append, List.length_singleton]; omega) c s e1
            have r2 := read_pt A (R ++ [48, 48]) HA.out (by rw [List.all_append, HR.out]; rfl) (by omega) (by omega) (by rw [List.length_append]; simp) (by rw [List.length_append]; simp; omega) c s e2
            clear e1 e2 hcs hV hS7 hA hQ hSl hQl hQ4 hR hDt hL hLl hiL hi HA HR HL hN hM hMb lN
            generalize valL L = V at *
            have r01 := r0.1
            have r11 := r1.1
            have r21 := r2.1
            have hpl := printP_len ⟨(c : Int), (s : Int)⟩
            have z3 : Z = 0 ∨ Z = 1 ∨ Z = 2 := by omega
            cases a3
            · obtain ⟨lo, hi, q1, q2, q3, q4, q5, q6, q7, q8, q9, q10, q11⟩ := D1 false
              simp only [Bool.false_eq_true, reduceIte] at q1 q2 q3 q5 q6
              clear D1 r0 r1 r2 hVz
              go_wp2_with fail
              refine at_calls (w := w) (R := fun W => Tab W) (hM1.alloc _) (Tab.alloc ht1) ?_
              rintro W2 hM2 ht2
              have HM := Lib.hid hM2
              clear ht1 hM1 hM2 hnx
              rcases z3 with rfl | rfl | rfl
              · go_wp2_with (first | (go_at_call 6; (with_reducible refine Calls.mono (readPrint_c _ q2 _) ?_); rintro e w' ⟨rfl, r, rfl⟩) | (go_at_call 6; (with_reducible refine Calls.mono (read_c _ (by first | omega | (simp <;> omega)) _) ?_); rintro e w' ⟨rfl, r, rfl⟩) | (go_at_call 11; (with_reducible refine Calls.mono (print_c _ ⟨_, _⟩ (by (repeat (first | assumption | with_reducible apply Tab.more | with_reducible apply Tab.alloc | with_reducible apply Tab.drew | with_reducible apply Tab.drewN)))) ?_); rintro e w' ⟨rfl, r, rfl⟩) | (go_at_call 7; (with_reducible refine Calls.mono (known9_c _ (by (repeat (first | assumption | with_reducible apply Tab.more | with_reducible apply Tab.alloc | with_reducible apply Tab.drew | with_reducible apply Tab.drewN)))) ?_); rintro e w' ⟨rfl, r, rfl⟩) | (go_at_call 8; (with_reducible refine (decIv_c _ _).mono ?_); rintro e w' ⟨rfl, r, rfl⟩) | (go_at_call 8; (with_reducible refine (decIv_c ⟨_, _⟩ _).mono ?_); rintro e w' ⟨rfl, r, rfl⟩) | (go_at_call 12; (with_reducible refine (decRight_c _ _).mono ?_); rintro e w' ⟨rfl, r, rfl⟩) | (go_at_call 12; (with_reducible refine (decRight_c ⟨_, _⟩ _).mono ?_); rintro e w' ⟨rfl, r, rfl⟩) | (go_at_call 16; (with_reducible refine (pick_c _ _ (by omega) (by omega) (by omega) (by omega) _).mono ?_); rintro e w' ⟨rfl, rfl⟩) | (go_at_call 22; (with_reducible refine (right_c _ _).mono ?_); rintro e w' ⟨rfl, r, rfl⟩) | (go_at_call 22; (with_reducible refine (right_c ⟨_, _, _⟩ _).mono ?_); rintro e w' ⟨rfl, r, rfl⟩))
                go_returns
                exact ⟨rfl, HM.out.trans (by repeat (first | exact More.refl _ | refine More.alloc ?_ _ | refine More.more ?_ _ | refine More.drew ?_ | refine More.drewN ?_ _))⟩
              · go_wp2_with (first | (go_at_call 6; (with_reducible refine Calls.mono (readPrint_c _ q2 _) ?_); rintro e w' ⟨rfl, r, rfl⟩) | (go_at_call 6; (with_reducible refine Calls.mono (read_c _ (by first | omega | (simp <;> omega)) _) ?_); rintro e w' ⟨rfl, r, rfl⟩) | (go_at_call 11; (with_reducible refine Calls.mono (print_c _ ⟨_, _⟩ (by (repeat (first | assumption | with_reducible apply Tab.more | with_reducible apply Tab.alloc | with_reducible apply Tab.drew | with_reducible apply Tab.drewN)))) ?_); rintro e w' ⟨rfl, r, rfl⟩) | (go_at_call 7; (with_reducible refine Calls.mono (known9_c _ (by (repeat (first | assumption | with_reducible apply Tab.more | with_reducible apply Tab.alloc | with_reducible apply Tab.drew | with_reducible apply Tab.drewN)))) ?_); rintro e w' ⟨rfl, r, rfl⟩) | (go_at_call 8; (with_reducible refine (decIv_c _ _).mono ?_); rintro e w' ⟨rfl, r, rfl⟩) | (go_at_call 8; (with_reducible refine (decIv_c ⟨_, _⟩ _).mono ?_); rintro e w' ⟨rfl, r, rfl⟩) | (go_at_call 12; (with_reducible refine (decRight_c _ _).mono ?_); rintro e w' ⟨rfl, r, rfl⟩) | (go_at_call 12; (with_reducible refine (decRight_c ⟨_, _⟩ _).mono ?_); rintro e w' ⟨rfl, r, rfl⟩) | (go_at_call 16; (with_reducible refine (pick_c _ _ (by omega) (by omega) (by omega) (by omega) _).mono ?_); rintro e w' ⟨rfl, rfl⟩) | (go_at_call 22; (with_reducible refine (right_c _ _).mono ?_); rintro e w' ⟨rfl, r, rfl⟩) | (go_at_call 22; (with_reducible refine (right_c ⟨_, _, _⟩ _).mono ?_); rintro e w' ⟨rfl, r, rfl⟩))
                go_returns
                exact ⟨rfl, HM.out.trans (by repeat (first | exact More.refl _ | refine More.alloc ?_ _ | refine More.more ?_ _ | refine More.drew ?_ | refine More.drewN ?_ _))⟩
              · go_wp2_with (first | (go_at_call 6; (with_reducible refine Calls.mono (readPrint_c _ q2 _) ?_); rintro e w' ⟨rfl, r, rfl⟩) | (go_at_call 6; (with_reducible refine Calls.mono (read_c _ (by first | omega | (simp <;> omega)) _) ?_); rintro e w' ⟨rfl, r, rfl⟩) | (go_at_call 11; (with_reducible refine Calls.mono (print_c _ ⟨_, _⟩ (by (repeat (first | assumption | with_reducible apply Tab.more | with_reducible apply Tab.alloc | with_reducible apply Tab.drew | with_reducible apply Tab.drewN)))) ?_); rintro e w' ⟨rfl, r, rfl⟩) | (go_at_call 7; (with_reducible refine Calls.mono (known9_c _ (by (repeat (first | assumption | with_reducible apply Tab.more | with_reducible apply Tab.alloc | with_reducible apply Tab.drew | with_reducible apply Tab.drewN)))) ?_); rintro e w' ⟨rfl, r, rfl⟩) | (go_at_call 8; (with_reducible refine (decIv_c _ _).mono ?_); rintro e w' ⟨rfl, r, rfl⟩) | (go_at_call 8; (with_reducible refine (decIv_c ⟨_, _⟩ _).mono ?_); rintro e w' ⟨rfl, r, rfl⟩) | (go_at_call 12; (with_reducible refine (decRight_c _ _).mono ?_); rintro e w' ⟨rfl, r, rfl⟩) | (go_at_call 12; (with_reducible refine (decRight_c ⟨_, _⟩ _).mono ?_); rintro e w' ⟨rfl, r, rfl⟩) | (go_at_call 16; (with_reducible refine (pick_c _ _ (by omega) (by omega) (by omega) (by omega) _).mono ?_); rintro e w' ⟨rfl, rfl⟩) | (go_at_call 22; (with_reducible refine (right_c _ _).mono ?_); rintro e w' ⟨rfl, r, rfl⟩) | (go_at_call 22; (with_reducible refine (right_c ⟨_, _, _⟩ _).mono ?_); rintro e w' ⟨rfl, r, rfl⟩))
                go_returns
                exact ⟨rfl, HM.out.trans (by repeat (first | exact More.refl _ | refine More.alloc ?_ _ | refine More.more ?_ _ | refine More.drew ?_ | refine More.drewN ?_ _))⟩
            · by_cases hV0 : V = 0
              · subst hV0
                obtain ⟨lo, hi, q1, q2, q3, q4, q5, q6, q7, q8, q9, q10, q11⟩ := D1 false
                simp only [Bool.false_eq_true, reduceIte] at q1 q2 q3 q5 q6
                clear D1 r0 r1 r2 hVz
                go_wp2_with fail
                refine at_calls (w := w) (R := fun W => Tab W) (hM1.alloc _) (Tab.alloc ht1) ?_
                rintro W2 hM2 ht2
                have HM := Lib.hid hM2
                clear ht1 hM1 hM2 hnx
                rcases z3 with rfl | rfl | rfl
                · go_wp2_with (first | (go_at_call 6; (with_reducible refine Calls.mono (readPrint_c _ q2 _) ?_); rintro e w' ⟨rfl, r, rfl⟩) | (go_at_call 6; (with_reducible refine Calls.mono (read_c _ (by first | omega | (simp <;> omega)) _) ?_); rintro e w' ⟨rfl, r, rfl⟩) | (go_at_call 11; (with_reducible refine Calls.mono (print_c _ ⟨_, _⟩ (by (repeat (first | assumption | with_reducible apply Tab.more | with_reducible apply Tab.alloc | with_reducible apply Tab.drew | with_reducible apply Tab.drewN)))) ?_); rintro e w' ⟨rfl, r, rfl⟩) | (go_at_call 7; (with_reducible refine Calls.mono (known9_c _ (by (repeat (first | assumption | with_reducible apply Tab.more | with_reducible apply Tab.alloc | with_reducible apply Tab.drew | with_reducible apply Tab.drewN)))) ?_); rintro e w' ⟨rfl, r, rfl⟩) | (go_at_call 8; (with_reducible refine (decIv_c _ _).mono ?_); rintro e w' ⟨rfl, r, rfl⟩) | (go_at_call 8; (with_reducible refine (decIv_c ⟨_, _⟩ _).mono ?_); rintro e w' ⟨rfl, r, rfl⟩) | (go_at_call 12; (with_reducible refine (decRight_c _ _).mono ?_); rintro e w' ⟨rfl, r, rfl⟩) | (go_at_call 12; (with_reducible refine (decRight_c ⟨_, _⟩ _).mono ?_); rintro e w' ⟨rfl, r, rfl⟩) | (go_at_call 16; (with_reducible refine (pick_c _ _ (by omega) (by omega) (by omega) (by omega) _).mono ?_); rintro e w' ⟨rfl, rfl⟩) | (go_at_call 22; (with_reducible refine (right_c _ _).mono ?_); rintro e w' ⟨rfl, r, rfl⟩) | (go_at_call 22; (with_reducible refine (right_c ⟨_, _, _⟩ _).mono ?_); rintro e w' ⟨rfl, r, rfl⟩))
                  go_returns
                  exact ⟨rfl, HM.out.trans (by repeat (first | exact More.refl _ | refine More.alloc ?_ _ | refine More.more ?_ _ | refine More.drew ?_ | refine More.drewN ?_ _))⟩
                · go_wp2_with (first | (go_at_call 6; (with_reducible refine Calls.mono (readPrint_c _ q2 _) ?_); rintro e w' ⟨rfl, r, rfl⟩) | (go_at_call 6; (with_reducible refine Calls.mono (read_c _ (by first | omega | (simp <;> omega)) _) ?_); rintro e w' ⟨rfl, r, rfl⟩) | (go_at_call 11; (with_reducible refine Calls.mono (print_c _ ⟨_, _⟩ (by (repeat (first | assumption | with_reducible apply Tab.more | with_reducible apply Tab.alloc | with_reducible apply Tab.drew | with_reducible apply Tab.drewN)))) ?_); rintro e w' ⟨rfl, r, rfl⟩) | (go_at_call 7; (with_reducible refine Calls.mono (known9_c _ (by (repeat (first | assumption | with_reducible apply Tab.more | with_reducible apply Tab.alloc | with_reducible apply Tab.drew | with_reducible apply Tab.drewN)))) ?_); rintro e w' ⟨rfl, r, rfl⟩) | (go_at_call 8; (with_reducible refine (decIv_c _ _).mono ?_); rintro e w' ⟨rfl, r, rfl⟩) | (go_at_call 8; (with_reducible refine (decIv_c ⟨_, _⟩ _).mono ?_); rintro e w' ⟨rfl, r, rfl⟩) | (go_at_call 12; (with_reducible refine (decRight_c _ _).mono ?_); rintro e w' ⟨rfl, r, rfl⟩) | (go_at_call 12; (with_reducible refine (decRight_c ⟨_, _⟩ _).mono ?_); rintro e w' ⟨rfl, r, rfl⟩) | (go_at_call 16; (with_reducible refine (pick_c _ _ (by omega) (by omega) (by omega) (by omega) _).mono ?_); rintro e w' ⟨rfl, rfl⟩) | (go_at_call 22; (with_reducible refine (right_c _ _).mono ?_); rintro e w' ⟨rfl, r, rfl⟩) | (go_at_call 22; (with_reducible refine (right_c ⟨_, _, _⟩ _).mono ?_); rintro e w' ⟨rfl, r, rfl⟩))
                  go_returns
                  exact ⟨rfl, HM.out.trans (by repeat (first | exact More.refl _ | refine More.alloc ?_ _ | refine More.more ?_ _ | refine More.drew ?_ | refine More.drewN ?_ _))⟩
                · go_wp2_with (first | (go_at_call 6; (with_reducible refine Calls.mono (readPrint_c _ q2 _) ?_); rintro e w' ⟨rfl, r, rfl⟩) | (go_at_call 6; (with_reducible refine Calls.mono (read_c _ (by first | omega | (simp <;> omega)) _) ?_); rintro e w' ⟨rfl, r, rfl⟩) | (go_at_call 11; (with_reducible refine Calls.mono (print_c _ ⟨_, _⟩ (by (repeat (first | assumption | with_reducible apply Tab.more | with_reducible apply Tab.alloc | with_reducible apply Tab.drew | with_reducible apply Tab.drewN)))) ?_); rintro e w' ⟨rfl, r, rfl⟩) | (go_at_call 7; (with_reducible refine Calls.mono (known9_c _ (by (repeat (first | assumption | with_reducible apply Tab.more | with_reducible apply Tab.alloc | with_reducible apply Tab.drew | with_reducible apply Tab.drewN)))) ?_); rintro e w' ⟨rfl, r, rfl⟩) | (go_at_call 8; (with_reducible refine (decIv_c _ _).mono ?_); rintro e w' ⟨rfl, r, rfl⟩) | (go_at_call 8; (with_reducible refine (decIv_c ⟨_, _⟩ _).mono ?_); rintro e w' ⟨rfl, r, rfl⟩) | (go_at_call 12; (with_reducible refine (decRight_c _ _).mono ?_); rintro e w' ⟨rfl, r, rfl⟩) | (go_at_call 12; (with_reducible refine (decRight_c ⟨_, _⟩ _).mono ?_); rintro e w' ⟨rfl, r, rfl⟩) | (go_at_call 16; (with_reducible refine (pick_c _ _ (by omega) (by omega) (by omega) (by omega) _).mono ?_); rintro e w' ⟨rfl, rfl⟩) | (go_at_call 22; (with_reducible refine (right_c _ _).mono ?_); rintro e w' ⟨rfl, r, rfl⟩) | (go_at_call 22; (with_reducible refine (right_c ⟨_, _, _⟩ _).mono ?_); rintro e w' ⟨rfl, r, rfl⟩))
                  go_returns
                  exact ⟨rfl, HM.out.trans (by repeat (first | exact More.refl _ | refine More.alloc ?_ _ | refine More.more ?_ _ | refine More.drew ?_ | refine More.drewN ?_ _))⟩
              · obtain ⟨lo, hi, q1, q2, q3, q4, q5, q6, q7, q8, q9, q10, q11⟩ := D1 true
                simp only [reduceIte] at q1 q2 q3 q5 q6
                have s01 := r0.2 (hVz hV0)
                have s11 := r1.2 (hVz hV0)
                have s21 := r2.2 (hVz hV0)
                have hpm := printP_len ⟨-(c : Int), (s : Int)⟩
                have hV1 : 0 < V := by omega
                clear D1 r0 r1 r2 hVz r01 r11 r21 hpl hV0
                go_wp2_with fail
                refine at_calls (w := w) (R := fun W => Tab W) (hM1.alloc _) (Tab.alloc ht1) ?_
                rintro W2 hM2 ht2
                have HM := Lib.hid hM2
                clear ht1 hM1 hM2 hnx
                rcases z3 with rfl | rfl | rfl
                · go_wp2_with (first | (go_at_call 6; (with_reducible refine Calls.mono (readPrint_c _ q2 _) ?_); rintro e w' ⟨rfl, r, rfl⟩) | (go_at_call 6; (with_reducible refine Calls.mono (read_c _ (by first | omega | (simp <;> omega)) _) ?_); rintro e w' ⟨rfl, r, rfl⟩) | (go_at_call 11; (with_reducible refine Calls.mono (print_c _ ⟨_, _⟩ (by (repeat (first | assumption | with_reducible apply Tab.more | with_reducible apply Tab.alloc | with_reducible apply Tab.drew | with_reducible apply Tab.drewN)))) ?_); rintro e w' ⟨rfl, r, rfl⟩) | (go_at_call 7; (with_reducible refine Calls.mono (known9_c _ (by (repeat (first | assumption | with_reducible apply Tab.more | with_reducible apply Tab.alloc | with_reducible apply Tab.drew | with_reducible apply Tab.drewN)))) ?_); rintro e w' ⟨rfl, r, rfl⟩) | (go_at_call 8; (with_reducible refine (decIv_c _ _).mono ?_); rintro e w' ⟨rfl, r, rfl⟩) | (go_at_call 8; (with_reducible refine (decIv_c ⟨_, _⟩ _).mono ?_); rintro e w' ⟨rfl, r, rfl⟩) | (go_at_call 12; (with_reducible refine (decRight_c _ _).mono ?_); rintro e w' ⟨rfl, r, rfl⟩) | (go_at_call 12; (with_reducible refine (decRight_c ⟨_, _⟩ _).mono ?_); rintro e w' ⟨rfl, r, rfl⟩) | (go_at_call 16; (with_reducible refine (pick_c _ _ (by omega) (by omega) (by omega) (by omega) _).mono ?_); rintro e w' ⟨rfl, rfl⟩) | (go_at_call 22; (with_reducible refine (right_c _ _).mono ?_); rintro e w' ⟨rfl, r, rfl⟩) | (go_at_call 22; (with_reducible refine (right_c ⟨_, _, _⟩ _).mono ?_); rintro e w' ⟨rfl, r, rfl⟩))
                  go_returns
                  exact ⟨rfl, HM.out.trans (by repeat (first | exact More.refl _ | refine More.alloc ?_ _ | refine More.more ?_ _ | refine More.drew ?_ | refine More.drewN ?_ _))⟩
                · go_wp2_with (first | (go_at_call 6; (with_reducible refine Calls.mono (readPrint_c _ q2 _) ?_); rintro e w' ⟨rfl, r, rfl⟩) | (go_at_call 6; (with_reducible refine Calls.mono (read_c _ (by first | omega | (simp <;> omega)) _) ?_); rintro e w' ⟨rfl, r, rfl⟩) | (go_at_call 11; (with_reducible refine Calls.mono (print_c _ ⟨_, _⟩ (by (repeat (first | assumption | with_reducible apply Tab.more | with_reducible apply Tab.alloc | with_reducible apply Tab.drew | with_reducible apply Tab.drewN)))) ?_); rintro e w' ⟨rfl, r, rfl⟩) | (go_at_call 7; (with_reducible refine Calls.mono (known9_c _ (by (repeat (first | assumption | with_reducible apply Tab.more | with_reducible apply Tab.alloc | with_reducible apply Tab.drew | with_reducible apply Tab.drewN)))) ?_); rintro e w' ⟨rfl, r, rfl⟩) | (go_at_call 8; (with_reducible refine (decIv_c _ _).mono ?_); rintro e w' ⟨rfl, r, rfl⟩) | (go_at_call 8; (with_reducible refine (decIv_c ⟨_, _⟩ _).mono ?_); rintro e w' ⟨rfl, r, rfl⟩) | (go_at_call 12; (with_reducible refine (decRight_c _ _).mono ?_); rintro e w' ⟨rfl, r, rfl⟩) | (go_at_call 12; (with_reducible refine (decRight_c ⟨_, _⟩ _).mono ?_); rintro e w' ⟨rfl, r, rfl⟩) | (go_at_call 16; (with_reducible refine (pick_c _ _ (by omega) (by omega) (by omega) (by omega) _).mono ?_); rintro e w' ⟨rfl, rfl⟩) | (go_at_call 22; (with_reducible refine (right_c _ _).mono ?_); rintro e w' ⟨rfl, r, rfl⟩) | (go_at_call 22; (with_reducible refine (right_c ⟨_, _, _⟩ _).mono ?_); rintro e w' ⟨rfl, r, rfl⟩))
                  go_returns
                  exact ⟨rfl, HM.out.trans (by repeat (first | exact More.refl _ | refine More.alloc ?_ _ | refine More.more ?_ _ | refine More.drew ?_ | refine More.drewN ?_ _))⟩
                · go_wp2_with (first | (go_at_call 6; (with_reducible refine Calls.mono (readPrint_c _ q2 _) ?_); rintro e w' ⟨rfl, r, rfl⟩) | (go_at_call 6; (with_reducible refine Calls.mono (read_c _ (by first | omega | (simp <;> omega)) _) ?_); rintro e w' ⟨rfl, r, rfl⟩) | (go_at_call 11; (with_reducible refine Calls.mono (print_c _ ⟨_, _⟩ (by (repeat (first | assumption | with_reducible apply Tab.more | with_reducible apply Tab.alloc | with_reducible apply Tab.drew | with_reducible apply Tab.drewN)))) ?_); rintro e w' ⟨rfl, r, rfl⟩) | (go_at_call 7; (with_reducible refine Calls.mono (known9_c _ (by (repeat (first | assumption | with_reducible apply Tab.more | with_reducible apply Tab.alloc | with_reducible apply Tab.drew | with_reducible apply Tab.drewN)))) ?_); rintro e w' ⟨rfl, r, rfl⟩) | (go_at_call 8; (with_reducible refine (decIv_c _ _).mono ?_); rintro e w' ⟨rfl, r, rfl⟩) | (go_at_call 8; (with_reducible refine (decIv_c ⟨_, _⟩ _).mono ?_); rintro e w' ⟨rfl, r, rfl⟩) | (go_at_call 12; (with_reducible refine (decRight_c _ _).mono ?_); rintro e w' ⟨rfl, r, rfl⟩) | (go_at_call 12; (with_reducible refine (decRight_c ⟨_, _⟩ _).mono ?_); rintro e w' ⟨rfl, r, rfl⟩) | (go_at_call 16; (with_reducible refine (pick_c _ _ (by omega) (by omega) (by omega) (by omega) _).mono ?_); rintro e w' ⟨rfl, rfl⟩) | (go_at_call 22; (with_reducible refine (right_c _ _).mono ?_); rintro e w' ⟨rfl, r, rfl⟩) | (go_at_call 22; (with_reducible refine (right_c ⟨_, _, _⟩ _).mono ?_); rintro e w' ⟨rfl, r, rfl⟩))
                  go_returns
                  exact ⟨rfl, HM.out.trans (by repeat (first | exact More.refl _ | refine More.alloc ?_ _ | refine More.more ?_ _ | refine More.drew ?_ | refine More.drewN ?_ _))⟩

end Go.Proofs.YthnehnabldgagaaDoor

