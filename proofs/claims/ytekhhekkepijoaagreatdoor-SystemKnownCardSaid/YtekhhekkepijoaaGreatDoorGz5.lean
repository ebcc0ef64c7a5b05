/-
  The contracts of package dec: each call answers what the plain decimals of chapter 9 say.
  The contracts of package dec, the second part: intervals, order.
-/
import Derived.Test.YtekhhekkepijoaaGreatDoorLib9
import Derived.Test.YtekhhekkepijoaaGreatDoorGd
import Derived.Test.YtekhhekkepijoaaGreatDoorGc

namespace Go.Proofs.YtekhhekkepijoaaGreatDoor
set_option linter.unusedVariables false
open Go.ChangeShapes Go.WideShapes Go.ChangeAt Go.RowKit

abbrev decV (d : Dec) : Value := .agg #[.int .i64 d.c, .int .i64 d.s]
@[go_sem] theorem run_dec_c (a : Dec) (w : World) : (Instr.field 25 (decV a) 0).run Tryz.prog w = .ok (.int .i64 a.c) w := by kernel_rfl
@[go_sem] theorem run_dec_s (a : Dec) (w : World) : (Instr.field 25 (decV a) 1).run Tryz.prog w = .ok (.int .i64 a.s) w := by kernel_rfl

theorem decRight_fine {c s : Int} (h1 : -100000000000 ≤ c) (h2 : c ≤ 100000000000) (h3 : 0 ≤ s) (h4 : s ≤ 6) : decRight ⟨c, s⟩ = (decide (s = 0) || !(c.tmod 10 == 0)) := by simp [decRight, h1, h2, h3, h4]

set_option maxHeartbeats 4000000 in
theorem decRight_c (d : Dec) (W : World) :
    Calls Tryz.prog 61 #[decV d] W fun e w' => e = .returned (.bool (decRight d)) ∧ More W w' := by
  obtain ⟨c, s⟩ := d
  by_cases h : -100000000000 ≤ c ∧ c ≤ 100000000000 ∧ 0 ≤ s ∧ s ≤ 6
  · obtain ⟨h1, h2, h3, h4⟩ := h
    rw [decRight_fine h1 h2 h3 h4]
    by_cases h0 : s = 0
    · subst h0
      go_enter Tryz.func61, Tryz.ntmps61
      go_wp2_with fail
      go_returns
      exact ⟨rfl, (by repeat (first | exact More.refl _ | refine More.alloc ?_ _ | refine More.more ?_ _ | refine More.drew ?_ | refine More.drewN ?_ _))⟩
    · have h5 : (s == 0) = false := by simpa using h0
      have h6 : decide (s = 0) = false := by simpa using h0
      rw [h6]
      clear h0
      go_enter Tryz.func61, Tryz.ntmps61
      go_wp2_with fail
      all_goals
        go_returns
        refine ⟨?_, (by repeat (first | exact More.refl _ | refine More.alloc ?_ _ | refine More.more ?_ _ | refine More.drew ?_ | refine More.drewN ?_ _))⟩
        rfl
  · have hf : decRight ⟨c, s⟩ = false := by
      unfold decRight
      simp only [Bool.and_eq_false_iff, decide_eq_false_iff_not]
      omega
    rw [hf]
    by_cases h1 : c < -100000000000
    · clear h hf
      go_enter Tryz.func61, Tryz.ntmps61
      go_wp2_with fail
      go_returns
      exact ⟨rfl, (by repeat (first | exact More.refl _ | refine More.alloc ?_ _ | refine More.more ?_ _ | refine More.drew ?_ | refine More.drewN ?_ _))⟩
    by_cases h2 : c > 100000000000
    · clear h hf
      go_enter Tryz.func61, Tryz.ntmps61
      go_wp2_with fail
      go_returns
      exact ⟨rfl, (by repeat (first | exact More.refl _ | refine More.alloc ?_ _ | refine More.more ?_ _ | refine More.drew ?_ | refine More.drewN ?_ _))⟩
    by_cases h3 : s < 0
    · clear h hf
      go_enter Tryz.func61, Tryz.ntmps61
      go_wp2_with fail
      go_returns
      exact ⟨rfl, (by repeat (first | exact More.refl _ | refine More.alloc ?_ _ | refine More.more ?_ _ | refine More.drew ?_ | refine More.drewN ?_ _))⟩
    have h4 : 6 < s := by omega
    clear h hf
    go_enter Tryz.func61, Tryz.ntmps61
    go_wp2_with fail
    go_returns
    exact ⟨rfl, (by repeat (first | exact More.refl _ | refine More.alloc ?_ _ | refine More.more ?_ _ | refine More.drew ?_ | refine More.drewN ?_ _))⟩

theorem all_next (l : List UInt8) (k : Nat) (h : k < l.length) : (l.take (k + 1)).all isD = ((l.take k).all isD && (decide (48 ≤ byteAt l k) && decide (byteAt l k ≤ 57))) := by
  have e : l.take (k + 1) = l.take k ++ [l.getD k 0] := by
    rw [List.take_succ_eq_append_getElem h, List.getD_eq_getElem?_getD, List.getElem?_eq_getElem h]
    rfl
  rw [e, List.all_append]
  congr 1
  simp only [List.all_cons, List.all_nil, Bool.and_true]
  unfold isD byteAt
  congr 1 <;> (rw [decide_eq_decide]; omega)
theorem all_stops (l : List UInt8) (k : Nat) (h : k < l.length) (hn : byteAt l k < 48 ∨ 57 < byteAt l k) : l.all isD = false := by
  have h1 : (l.take (k + 1)).all isD = false := by
    rw [all_next l k h]
    simp only [Bool.and_eq_false_iff, decide_eq_false_iff_not]
    omega
  have h2 : l.all isD = ((l.take (k + 1)).all isD && (l.drop (k + 1)).all isD) := by rw [← List.all_append, List.take_append_drop]
  rw [h2, h1]
  rfl

set_option maxHeartbeats 4000000 in
theorem digits_c (s : ByteArray) (m : Int) (hs : s.size ≤ 9223372036854775807) (W : World) :
    Calls Tryz.prog 75 #[.string s, .int .i64 m] W fun e w' => e = .returned (.bool (digs (lsOf s) m)) ∧ W = w' := by
  obtain ⟨l, rfl⟩ := str_bs s
  rw [ls_bs]
  rw [size_bs] at hs
  by_cases h1 : 1 ≤ l.length
  · by_cases h2 : (l.length : Int) ≤ m
    · have hd : digs l m = l.all isD := by simp [digs, h1, h2]
      rw [hd]
      clear hd
      go_enter Tryz.func75, Tryz.ntmps75
      go_wp2_with fail
      go_loop [17] (fun i => ∃ k : Nat, k ≤ l.length ∧ i = .int .i64 k ∧ (l.take k).all isD = true) (fun i => l.length - (intOf i).toNat)
      case atStart => exact ⟨0, by omega, rfl, rfl⟩
      case round =>
        obtain ⟨k, hk, rfl, ha⟩ := hrel
        by_cases hkl : k < l.length
        · have hb := byteAt_bd l k
          have HN := Lib.hid (all_next l k hkl)
          have HS := Lib.hid (all_stops l k hkl)
          have HA := Lib.hid ha
          clear ha
          by_cases h3 : byteAt l k < 48
          · go_wp2_with fail
            go_ret
            exact ⟨by rw [HS.out (.inl h3)]; rfl, rfl⟩
          · by_cases h4 : 57 < byteAt l k
            · go_wp2_with fail
              go_ret
              exact ⟨by rw [HS.out (.inr h4)]; rfl, rfl⟩
            · go_wp2_with fail
              go_round
              case rel => exact ⟨k + 1, by omega, by go_num, by rw [HN.out, HA.out]; simp; omega⟩
              case measure => simp [intOf]; omega
        · have : k = l.length := by omega
          subst this
          rw [List.take_length] at ha
          have HA := Lib.hid ha
          clear ha
          go_wp2_with fail
          go_ret
          exact ⟨by rw [HA.out]; rfl, rfl⟩
    · have hd : digs l m = false := by simp [digs]; omega
      rw [hd]
      clear hd
      go_enter Tryz.func75, Tryz.ntmps75
      go_wp2_with fail
      go_ret
      exact ⟨rfl, rfl⟩
  · have hd : digs l m = false := by
      have : l.length = 0 := by omega
      simp [digs, this]
    rw [hd]
    clear hd
    have h0 : l.length < 1 := by omega
    clear h1
    go_enter Tryz.func75, Tryz.ntmps75
    go_wp2_with fail
    go_ret
    exact ⟨rfl, rfl⟩

/-- Ten to the n. -/
def p10 (n : Nat) : Int := 10 ^ n
theorem p10_next (n : Nat) : p10 (n + 1) = p10 n * 10 := Int.pow_succ ..
theorem p10_bd (n : Nat) (h : n ≤ 6) : 1 ≤ p10 n ∧ p10 n ≤ 1000000 := by
  have : n = 0 ∨ n = 1 ∨ n = 2 ∨ n = 3 ∨ n = 4 ∨ n = 5 ∨ n = 6 := by omega
  rcases this with rfl | rfl | rfl | rfl | rfl | rfl | rfl <;> decide

set_option maxHeartbeats 4000000 in
theorem power_c (n : Int) (h0 : 0 ≤ n) (h1 : n ≤ 6) (W : World) :
    Calls Tryz.prog 62 #[.int .i64 n] W fun e w' => e = .returned (.int .i64 (p10 n.toNat)) ∧ W = w' := by
  obtain ⟨m, rfl⟩ := Int.eq_ofNat_of_zero_le h0
  go_enter Tryz.func62, Tryz.ntmps62
  go_wp2_with fail
  go_loop [3, 5] (fun p i => ∃ k : Nat, k ≤ m ∧ i = .int .i64 k ∧ p = .int .i64 (p10 k)) (fun _ i => m - (intOf i).toNat)
  case atStart => exact ⟨0, by omega, rfl, rfl⟩
  case round =>
    obtain ⟨k, hk, rfl, rfl⟩ := hrel
    have hb := p10_bd k (by omega)
    by_cases hkm : k < m
    · have HN := Lib.hid (p10_next k)
      go_wp2_with fail
      go_round
      case rel => exact ⟨k + 1, by omega, by go_num, by rw [HN.out]⟩
      case measure => simp [intOf]; omega
    · have : k = m := by omega
      subst this
      go_wp2_with fail
      go_ret
      exact ⟨rfl, rfl⟩

theorem take_snoc (l : List UInt8) (k : Nat) (h : k < l.length) : l.take (k + 1) = l.take k ++ [l.getD k 0] := by
  rw [List.take_succ_eq_append_getElem h, List.getD_eq_getElem?_getD, List.getElem?_eq_getElem h]
  rfl
theorem valL_next (l : List UInt8) (k : Nat) (h : k < l.length) (hd : l.all isD = true) : (valL (l.take (k + 1)) : Int) = 10 * (valL (l.take k) : Int) + (byteAt l k - 48) ∧ 48 ≤ byteAt l k ∧ byteAt l k ≤ 57 := by
  have h1 : isD (l.getD k 0) = true := by
    have := all_stops l k h
    unfold isD
    unfold byteAt at this
    rw [hd] at this
    simp only [Bool.and_eq_true, decide_eq_true_eq]
    refine ⟨?_, ?_⟩ <;> (apply Classical.byContradiction; intro hc; have := this (by omega); simp at this)
  rw [take_snoc l k h, valL_snoc]
  unfold byteAt
  simp [isD, dv] at h1 ⊢
  omega
theorem valL_small (l : List UInt8) (hd : l.all isD = true) (hl : l.length ≤ 11) : valL l < 100000000000 := by
  have h := valL_lt l hd
  have : (10 : Nat) ^ l.length ≤ 10 ^ 11 := Nat.pow_le_pow_right (by decide) hl
  omega
theorem valL_take_small (l : List UInt8) (k : Nat) (hd : l.all isD = true) (hl : l.length ≤ 11) : (valL (l.take k) : Int) < 100000000000 := by
  have := valL_small (l.take k) (by rw [List.all_eq_true] at *; exact fun x hx => hd x (List.mem_of_mem_take hx)) (by rw [List.length_take]; omega)
  omega

set_option maxHeartbeats 4000000 in
theorem value_c (s : ByteArray) (hd : (lsOf s).all isD = true) (hl : (lsOf s).length ≤ 11) (W : World) :
    Calls Tryz.prog 77 #[.string s] W fun e w' => e = .returned (.int .i64 (valL (lsOf s))) ∧ W = w' := by
  obtain ⟨l, rfl⟩ := str_bs s
  rw [ls_bs] at *
  have HD := Lib.hid hd
  clear hd
  go_enter Tryz.func77, Tryz.ntmps77
  go_wp2_with fail
  go_loop [3, 7] (fun n i => ∃ k : Nat, k ≤ l.length ∧ i = .int .i64 k ∧ n = .int .i64 (valL (l.take k))) (fun _ i => l.length - (intOf i).toNat)
  case atStart => exact ⟨0, by omega, rfl, rfl⟩
  case round =>
    obtain ⟨k, hk, rfl, rfl⟩ := hrel
    have hb := valL_take_small l k HD.out hl
    by_cases hkl : k < l.length
    · obtain ⟨e, h1, h2⟩ := valL_next l k hkl HD.out
      have HE := Lib.hid e
      clear e
      go_wp2_with fail
      go_round
      case rel => exact ⟨k + 1, by omega, by go_num, by rw [HE.out]⟩
      case measure => simp [intOf]; omega
    · have : k = l.length := by omega
      subst this
      go_wp2_with fail
      go_ret
      exact ⟨rfl, rfl⟩

theorem unsg_len (l : List UInt8) : (unsg l).length ≤ l.length := by unfold unsg; split <;> simp
theorem digs_true {l : List UInt8} {m : Int} (h : digs l m = true) : l.all isD = true ∧ 1 ≤ l.length ∧ (l.length : Int) ≤ m := by
  simp only [digs, Bool.and_eq_true, decide_eq_true_eq] at h
  exact ⟨h.2, h.1⟩
theorem okA_true {u : List UInt8} (h : okA u = true) : (dotA u ++ noZ (dotB u)).all isD = true ∧ (dotA u ++ noZ (dotB u)).length ≤ 11 ∧ (noZ (dotB u)).length ≤ 6 ∧ (dotA u).all isD = true ∧ (dotB u).all isD = true := by
  simp only [okA, Bool.and_eq_true, Bool.or_eq_true, Bool.not_eq_true'] at h
  obtain ⟨a1, a2, a3⟩ := digs_true h.1
  have hb : (dotB u).all isD = true ∧ (dotB u).length ≤ 6 := by
    rcases h.2 with h2 | h2
    · rw [(dot_none u h2).2]; exact ⟨rfl, by simp⟩
    · obtain ⟨b1, b2, b3⟩ := digs_true h2
      exact ⟨b1, by omega⟩
  have hn := noZ_len (dotB u)
  refine ⟨?_, by rw [List.length_append]; omega, by omega, a1, hb.1⟩
  rw [List.all_append, a1, noZ_all _ hb.1]
  rfl

set_option maxHeartbeats 4000000 in
theorem read_c (s : ByteArray) (hs : s.size ≤ 9223372036854775807) (W : World) :
    Calls Tryz.prog 49 #[.string s] W fun e w' => e = .returned (.tuple #[decV (readP (lsOf s)).1, .bool (readP (lsOf s)).2]) ∧ More W w' := by
  obtain ⟨l, rfl⟩ := str_bs s
  rw [ls_bs]
  rw [size_bs] at hs
  have hul := unsg_len l
  unfold readP
  have hla : (dotA (unsg l)).length ≤ (unsg l).length := by
    cases hd : hasDot (unsg l) with
    | false => rw [(dot_none (unsg l) hd).1]; omega
    | true => have := (dot_take (unsg l) hd).2.2; omega
  have hlb : (dotB (unsg l)).length ≤ (unsg l).length := by
    cases hd : hasDot (unsg l) with
    | false => rw [(dot_none (unsg l) hd).2]; simp
    | true => rw [← (dot_take (unsg l) hd).2.1]; simp
  cases ho : okA (unsg l) with
  | false =>
    rw [if_neg (by simp)]
    unfold okA at ho
    cases h1 : digs (dotA (unsg l)) 5 with
    | false =>
      clear ho
      go_enter Tryz.func49, Tryz.ntmps49
      go_wp2_with (first | (go_at_call 73; (with_reducible refine (cutMin_c _ () _).mono ?_); rintro e w' ⟨rfl, rfl⟩) | (go_at_call 74; (with_reducible refine (cut_c _ () (by (try simp only [size_bs]); omega) _).mono ?_); rintro e w' ⟨rfl, r, rfl⟩) | (go_at_call 75; (with_reducible refine (digits_c _ _ (by (try simp only [size_bs]); omega) _).mono ?_); rintro e w' ⟨rfl, rfl⟩) | (go_at_call 76; (with_reducible refine (noZ_c _ () (by (try simp only [size_bs]); omega) _).mono ?_); rintro e w' ⟨rfl, rfl⟩) | (go_at_call 77; (with_reducible refine (value_c _ (by (try simp only [ls_bs]); assumption) (by (first | omega | decide | (simp; done) | (simp; omega))) _).mono ?_); rintro e w' ⟨rfl, rfl⟩))
      go_returns
      exact ⟨rfl, (by repeat (first | exact More.refl _ | refine More.alloc ?_ _ | refine More.more ?_ _ | refine More.drew ?_ | refine More.drewN ?_ _))⟩
    | true =>
      cases h2 : hasDot (unsg l) with
      | false => rw [h1, h2] at ho; cases ho
      | true =>
        cases h3 : digs (dotB (unsg l)) 6 with
        | true => rw [h1, h2, h3] at ho; cases ho
        | false =>
          clear ho
          go_enter Tryz.func49, Tryz.ntmps49
          go_wp2_with (first | (go_at_call 73; (with_reducible refine (cutMin_c _ () _).mono ?_); rintro e w' ⟨rfl, rfl⟩) | (go_at_call 74; (with_reducible refine (cut_c _ () (by (try simp only [size_bs]); omega) _).mono ?_); rintro e w' ⟨rfl, r, rfl⟩) | (go_at_call 75; (with_reducible refine (digits_c _ _ (by (try simp only [size_bs]); omega) _).mono ?_); rintro e w' ⟨rfl, rfl⟩) | (go_at_call 76; (with_reducible refine (noZ_c _ () (by (try simp only [size_bs]); omega) _).mono ?_); rintro e w' ⟨rfl, rfl⟩) | (go_at_call 77; (with_reducible refine (value_c _ (by (try simp only [ls_bs]); assumption) (by (first | omega | decide | (simp; done) | (simp; omega))) _).mono ?_); rintro e w' ⟨rfl, rfl⟩))
          go_returns
          exact ⟨rfl, (by repeat (first | exact More.refl _ | refine More.alloc ?_ _ | refine More.more ?_ _ | refine More.drew ?_ | refine More.drewN ?_ _))⟩
  | true =>
    rw [if_pos rfl]
    obtain ⟨g1, g2, g3, _⟩ := okA_true ho
    have gs := valL_small _ g1 g2
    unfold okA at ho
    simp only [Bool.and_eq_true, Bool.or_eq_true, Bool.not_eq_true'] at ho
    obtain ⟨h1, h23⟩ := ho
    rw [List.length_append] at g2
    rcases h23 with h2 | h3
    · by_cases hn : isNeg l = true
      · by_cases hc : valL (dotA (unsg l) ++ noZ (dotB (unsg l))) = 0
        · rw [if_pos ⟨hn, hc⟩]
          go_enter Tryz.func49, Tryz.ntmps49
          go_wp2_with (first | (go_at_call 73; (with_reducible refine (cutMin_c _ () _).mono ?_); rintro e w' ⟨rfl, rfl⟩) | (go_at_call 74; (with_reducible refine (cut_c _ () (by (try simp only [size_bs]); omega) _).mono ?_); rintro e w' ⟨rfl, r, rfl⟩) | (go_at_call 75; (with_reducible refine (digits_c _ _ (by (try simp only [size_bs]); omega) _).mono ?_); rintro e w' ⟨rfl, rfl⟩) | (go_at_call 76; (with_reducible refine (noZ_c _ () (by (try simp only [size_bs]); omega) _).mono ?_); rintro e w' ⟨rfl, rfl⟩) | (go_at_call 77; (with_reducible refine (value_c _ (by (try simp only [ls_bs]); assumption) (by (first | omega | decide | (simp; done) | (simp; omega))) _).mono ?_); rintro e w' ⟨rfl, rfl⟩))
          go_returns
          exact ⟨rfl, (by repeat (first | exact More.refl _ | refine More.alloc ?_ _ | refine More.more ?_ _ | refine More.drew ?_ | refine More.drewN ?_ _))⟩
        · rw [if_neg (fun h => hc h.2), if_pos hn]
          have hc' : (((valL (dotA (unsg l) ++ noZ (dotB (unsg l))) : Nat) : Int) == 0) = false := by simpa using hc
          go_enter Tryz.func49, Tryz.ntmps49
          go_wp2_with (first | (go_at_call 73; (with_reducible refine (cutMin_c _ () _).mono ?_); rintro e w' ⟨rfl, rfl⟩) | (go_at_call 74; (with_reducible refine (cut_c _ () (by (try simp only [size_bs]); omega) _).mono ?_); rintro e w' ⟨rfl, r, rfl⟩) | (go_at_call 75; (with_reducible refine (digits_c _ _ (by (try simp only [size_bs]); omega) _).mono ?_); rintro e w' ⟨rfl, rfl⟩) | (go_at_call 76; (with_reducible refine (noZ_c _ () (by (try simp only [size_bs]); omega) _).mono ?_); rintro e w' ⟨rfl, rfl⟩) | (go_at_call 77; (with_reducible refine (value_c _ (by (try simp only [ls_bs]); assumption) (by (first | omega | decide | (simp; done) | (simp; omega))) _).mono ?_); rintro e w' ⟨rfl, rfl⟩))
          go_returns
          exact ⟨rfl, (by repeat (first | exact More.refl _ | refine More.alloc ?_ _ | refine More.more ?_ _ | refine More.drew ?_ | refine More.drewN ?_ _))⟩
      · rw [if_neg (fun h => hn h.1), if_neg hn]
        have hn' : isNeg l = false := by simpa using hn
        go_enter Tryz.func49, Tryz.ntmps49
        go_wp2_with (first | (go_at_call 73; (with_reducible refine (cutMin_c _ () _).mono ?_); rintro e w' ⟨rfl, rfl⟩) | (go_at_call 74; (with_reducible refine (cut_c _ () (by (try simp only [size_bs]); omega) _).mono ?_); rintro e w' ⟨rfl, r, rfl⟩) | (go_at_call 75; (with_reducible refine (digits_c _ _ (by (try simp only [size_bs]); omega) _).mono ?_); rintro e w' ⟨rfl, rfl⟩) | (go_at_call 76; (with_reducible refine (noZ_c _ () (by (try simp only [size_bs]); omega) _).mono ?_); rintro e w' ⟨rfl, rfl⟩) | (go_at_call 77; (with_reducible refine (value_c _ (by (try simp only [ls_bs]); assumption) (by (first | omega | decide | (simp; done) | (simp; omega))) _).mono ?_); rintro e w' ⟨rfl, rfl⟩))
        go_returns
        exact ⟨rfl, (by repeat (first | exact More.refl _ | refine More.alloc ?_ _ | refine More.more ?_ _ | refine More.drew ?_ | refine More.drewN ?_ _))⟩
    · cases h2 : hasDot (unsg l)
      all_goals
        by_cases hn : isNeg l = true
        · by_cases hc : valL (dotA (unsg l) ++ noZ (dotB (unsg l))) = 0
          · rw [if_pos ⟨hn, hc⟩]
            go_enter Tryz.func49, Tryz.ntmps49
            go_wp2_with (first | (go_at_call 73; (with_reducible refine (cutMin_c _ () _).mono ?_); rintro e w' ⟨rfl, rfl⟩) | (go_at_call 74; (with_reducible refine (cut_c _ () (by (try simp only [size_bs]); omega) _).mono ?_); rintro e w' ⟨rfl, r, rfl⟩) | (go_at_call 75; (with_reducible refine (digits_c _ _ (by (try simp only [size_bs]); omega) _).mono ?_); rintro e w' ⟨rfl, rfl⟩) | (go_at_call 76; (with_reducible refine (noZ_c _ () (by (try simp only [size_bs]); omega) _).mono ?_); rintro e w' ⟨rfl, rfl⟩) | (go_at_call 77; (with_reducible refine (value_c _ (by (try simp only [ls_bs]); assumption) (by (first | omega | decide | (simp; done) | (simp; omega))) _).mono ?_); rintro e w' ⟨rfl, rfl⟩))
            go_returns
            exact ⟨rfl, (by repeat (first | exact More.refl _ | refine More.alloc ?_ _ | refine More.more ?_ _ | refine More.drew ?_ | refine More.drewN ?_ _))⟩
          · rw [if_neg (fun h => hc h.2), if_pos hn]
            have hc' : (((valL (dotA (unsg l) ++ noZ (dotB (unsg l))) : Nat) : Int) == 0) = false := by simpa using hc
            go_enter Tryz.func49, Tryz.ntmps49
            go_wp2_with (first | (go_at_call 73; (with_reducible refine (cutMin_c _ () _).mono ?_); rintro e w' ⟨rfl, rfl⟩) | (go_at_call 74; (with_reducible refine (cut_c _ () (by (try simp only [size_bs]); omega) _).mono ?_); rintro e w' ⟨rfl, r, rfl⟩) | (go_at_call 75; (with_reducible refine (digits_c _ _ (by (try simp only [size_bs]); omega) _).mono ?_); rintro e w' ⟨rfl, rfl⟩) | (go_at_call 76; (with_reducible refine (noZ_c _ () (by (try simp only [size_bs]); omega) _).mono ?_); rintro e w' ⟨rfl, rfl⟩) | (go_at_call 77; (with_reducible refine (value_c _ (by (try simp only [ls_bs]); assumption) (by (first | omega | decide | (simp; done) | (simp; omega))) _).mono ?_); rintro e w' ⟨rfl, rfl⟩))
            go_returns
            exact ⟨rfl, (by repeat (first | exact More.refl _ | refine More.alloc ?_ _ | refine More.more ?_ _ | refine More.drew ?_ | refine More.drewN ?_ _))⟩
        · rw [if_neg (fun h => hn h.1), if_neg hn]
          have hn' : isNeg l = false := by simpa using hn
          go_enter Tryz.func49, Tryz.ntmps49
          go_wp2_with (first | (go_at_call 73; (with_reducible refine (cutMin_c _ () _).mono ?_); rintro e w' ⟨rfl, rfl⟩) | (go_at_call 74; (with_reducible refine (cut_c _ () (by (try simp only [size_bs]); omega) _).mono ?_); rintro e w' ⟨rfl, r, rfl⟩) | (go_at_call 75; (with_reducible refine (digits_c _ _ (by (try simp only [size_bs]); omega) _).mono ?_); rintro e w' ⟨rfl, rfl⟩) | (go_at_call 76; (with_reducible refine (noZ_c _ () (by (try simp only [size_bs]); omega) _).mono ?_); rintro e w' ⟨rfl, rfl⟩) | (go_at_call 77; (with_reducible refine (value_c _ (by (try simp only [ls_bs]); assumption) (by (first | omega | decide | (simp; done) | (simp; omega))) _).mono ?_); rintro e w' ⟨rfl, rfl⟩))
          go_returns
          exact ⟨rfl, (by repeat (first | exact More.refl _ | refine More.alloc ?_ _ | refine More.more ?_ _ | refine More.drew ?_ | refine More.drewN ?_ _))⟩

end Go.Proofs.YtekhhekkepijoaaGreatDoor

namespace Go.Proofs.YtekhhekkepijoaaGreatDoor
set_option linter.unusedVariables false
open Go.ChangeShapes Go.WideShapes Go.ChangeAt Go.RowKit

def decIv (d : Dec) : Iv := if decRight d = true then ivOf ((d.c * 65536).fdiv (p10 d.s.toNat)) (-((-(d.c * 65536)).fdiv (p10 d.s.toNat))) else ivNone
def decLess (a b : Dec) : Bool := decRight a && decRight b && decide (a.c * p10 b.s.toNat < b.c * p10 a.s.toNat)

theorem fdiv_le (a b : Int) (m : Int) (hb : 1 ≤ b) (h0 : -m ≤ a) (h1 : a ≤ m) : -m ≤ a.fdiv b ∧ a.fdiv b ≤ m := by
  rw [Int.fdiv_eq_ediv_of_nonneg a (by omega)]
  have e := Int.mul_ediv_add_emod a b
  have r0 := Int.emod_nonneg a (show b ≠ 0 by omega)
  have r1 := Int.emod_lt_of_pos a (show 0 < b by omega)
  generalize a / b = q at *
  generalize a % b = r at *
  have hm : 0 ≤ m := by omega
  constructor
  · apply Classical.byContradiction
    intro hc
    have h2 : q + 1 ≤ -m := by omega
    have h3 : b * q ≤ b * (-m - 1) := Int.mul_le_mul_of_nonneg_left (by omega) (by omega)
    have h4 : b * (-m - 1) = -(b * m) - b := by grind
    have h5 : 1 * m ≤ b * m := Int.mul_le_mul_of_nonneg_right hb hm
    omega
  · apply Classical.byContradiction
    intro hc
    have h3 : b * (m + 1) ≤ b * q := Int.mul_le_mul_of_nonneg_left (by omega) (by omega)
    have h4 : b * (m + 1) = b * m + b := by grind
    have h5 : 1 * m ≤ b * m := Int.mul_le_mul_of_nonneg_right hb hm
    omega
theorem cmul_bd (c p : Int) (h0 : -100000000000 ≤ c) (h1 : c ≤ 100000000000) (hp : 1 ≤ p) (hq : p ≤ 1000000) : -100000000000000000 ≤ c * p ∧ c * p ≤ 100000000000000000 := by
  have e1 : c * p ≤ 100000000000 * p := Int.mul_le_mul_of_nonneg_right h1 (by omega)
  have e2 : -100000000000 * p ≤ c * p := Int.mul_le_mul_of_nonneg_right h0 (by omega)
  omega

set_option maxHeartbeats 4000000 in
theorem decIv_c (d : Dec) (W : World) :
    Calls Tryz.prog 26 #[decV d] W fun e w' => e = .returned (ivV (decIv d)) ∧ More W w' := by
  obtain ⟨c, s⟩ := d
  unfold decIv
  cases hr : decRight ⟨c, s⟩ with
  | false =>
    rw [if_neg (by simp)]
    go_enter Tryz.func26, Tryz.ntmps26
    go_wp2_with (first | (go_at_call 10; (with_reducible refine (none_c _).mono ?_); rintro e w' ⟨rfl, r, rfl⟩) | (go_at_call 24; (with_reducible refine (of_c _ _ _).mono ?_); rintro e w' ⟨rfl, r, rfl⟩) | (go_at_call 61; (with_reducible refine (decRight_c _ _).mono ?_); rintro e w' ⟨rfl, r, rfl⟩) | (go_at_call 61; (with_reducible refine (decRight_c ⟨_, _⟩ _).mono ?_); rintro e w' ⟨rfl, r, rfl⟩) | (go_at_call 62; (with_reducible refine (power_c _ (by omega) (by omega) _).mono ?_); rintro e w' ⟨rfl, rfl⟩) | (go_at_call 63; (with_reducible refine (floor_c _ _ (by omega) (by omega) (by omega) _).mono ?_); rintro e w' ⟨rfl, rfl⟩) | ((with_reducible show Code.wp _ (Code.region 3 _ true) _ _ _); (with_reducible refine wp_more_quick_m (id := 3) ?_ ?_ ?_); kernel_rfl; kernel_rfl; (try simp only [List.take_succ_cons, List.take_zero, List.drop_succ_cons, List.drop_zero]); (repeat (any_goals (first | go_big_quiet_step ((first | (go_at_call 62; (with_reducible apply quiet_call_same); with_reducible exact power_c _ (by omega) (by omega) _))) | quiet_step ((first | (go_at_call 62; (with_reducible apply quiet_call_same); with_reducible exact power_c _ (by omega) (by omega) _)))))); (with_reducible refine wpQuiet_nil ?_); intro r) | ((with_reducible show Code.wp _ (Code.region 3 _ true) _ _ _); (with_reducible refine wp_more_quick (id := 3) ?_ ?_ ?_); kernel_rfl; kernel_rfl; (try simp only [List.take_succ_cons, List.take_zero, List.drop_succ_cons, List.drop_zero]); (repeat (any_goals (first | go_big_quiet_step ((first | (go_at_call 62; (with_reducible apply quiet_call_same); with_reducible exact power_c _ (by omega) (by omega) _))) | quiet_step ((first | (go_at_call 62; (with_reducible apply quiet_call_same); with_reducible exact power_c _ (by omega) (by omega) _)))))); (with_reducible refine wpQuiet_nil ?_); intro r))
    go_returns
    exact ⟨rfl, (by repeat (first | exact More.refl _ | refine More.alloc ?_ _ | refine More.more ?_ _ | refine More.drew ?_ | refine More.drewN ?_ _))⟩
  | true =>
    rw [if_pos rfl]
    obtain ⟨⟨h1, h2⟩, h3, h4, _⟩ := decRight_bd hr
    have hp := p10_bd s.toNat (by omega)
    have hf := fdiv_le (c * 65536) (p10 s.toNat) 6553600000000000 hp.1 (by omega) (by omega)
    have hg := fdiv_le (-(c * 65536)) (p10 s.toNat) 6553600000000000 hp.1 (by omega) (by omega)
    go_enter Tryz.func26, Tryz.ntmps26
    go_wp2_with (first | (go_at_call 10; (with_reducible refine (none_c _).mono ?_); rintro e w' ⟨rfl, r, rfl⟩) | (go_at_call 24; (with_reducible refine (of_c _ _ _).mono ?_); rintro e w' ⟨rfl, r, rfl⟩) | (go_at_call 61; (with_reducible refine (decRight_c _ _).mono ?_); rintro e w' ⟨rfl, r, rfl⟩) | (go_at_call 61; (with_reducible refine (decRight_c ⟨_, _⟩ _).mono ?_); rintro e w' ⟨rfl, r, rfl⟩) | (go_at_call 62; (with_reducible refine (power_c _ (by omega) (by omega) _).mono ?_); rintro e w' ⟨rfl, rfl⟩) | (go_at_call 63; (with_reducible refine (floor_c _ _ (by omega) (by omega) (by omega) _).mono ?_); rintro e w' ⟨rfl, rfl⟩) | ((with_reducible show Code.wp _ (Code.region 3 _ true) _ _ _); (with_reducible refine wp_more_quick_m (id := 3) ?_ ?_ ?_); kernel_rfl; kernel_rfl; (try simp only [List.take_succ_cons, List.take_zero, List.drop_succ_cons, List.drop_zero]); (repeat (any_goals (first | go_big_quiet_step ((first | (go_at_call 62; (with_reducible apply quiet_call_same); with_reducible exact power_c _ (by omega) (by omega) _))) | quiet_step ((first | (go_at_call 62; (with_reducible apply quiet_call_same); with_reducible exact power_c _ (by omega) (by omega) _)))))); (with_reducible refine wpQuiet_nil ?_); intro r) | ((with_reducible show Code.wp _ (Code.region 3 _ true) _ _ _); (with_reducible refine wp_more_quick (id := 3) ?_ ?_ ?_); kernel_rfl; kernel_rfl; (try simp only [List.take_succ_cons, List.take_zero, List.drop_succ_cons, List.drop_zero]); (repeat (any_goals (first | go_big_quiet_step ((first | (go_at_call 62; (with_reducible apply quiet_call_same); with_reducible exact power_c _ (by omega) (by omega) _))) | quiet_step ((first | (go_at_call 62; (with_reducible apply quiet_call_same); with_reducible exact power_c _ (by omega) (by omega) _)))))); (with_reducible refine wpQuiet_nil ?_); intro r))
    go_returns
    exact ⟨rfl, (by repeat (first | exact More.refl _ | refine More.alloc ?_ _ | refine More.more ?_ _ | refine More.drew ?_ | refine More.drewN ?_ _))⟩

set_option maxHeartbeats 4000000 in
theorem decLess_c (a b : Dec) (W : World) :
    Calls Tryz.prog 110 #[decV a, decV b] W fun e w' => e = .returned (.bool (decLess a b)) ∧ More W w' := by
  obtain ⟨c, s⟩ := a
  obtain ⟨c', s'⟩ := b
  unfold decLess
  cases hr : decRight ⟨c, s⟩ with
  | false =>
    go_enter Tryz.func110, Tryz.ntmps110
    go_wp2_with (first | (go_at_call 61; (with_reducible refine (decRight_c _ _).mono ?_); rintro e w' ⟨rfl, r, rfl⟩) | (go_at_call 61; (with_reducible refine (decRight_c ⟨_, _⟩ _).mono ?_); rintro e w' ⟨rfl, r, rfl⟩) | (go_at_call 62; (with_reducible refine (power_c _ (by omega) (by omega) _).mono ?_); rintro e w' ⟨rfl, rfl⟩) | ((with_reducible show Code.wp _ (Code.region 1 _ true) _ _ _); (with_reducible refine wp_more_quick_m (id := 1) ?_ ?_ ?_); kernel_rfl; kernel_rfl; (try simp only [List.take_succ_cons, List.take_zero, List.drop_succ_cons, List.drop_zero]); (repeat (any_goals (first | go_big_quiet_step ((first | (go_at_call 61; (with_reducible apply quiet_call_b); (with_reducible exact decRight_c _ _); with_reducible assumption) | (go_at_call 61; (with_reducible apply quiet_call); with_reducible exact decRight_c _ _) | (go_at_call 61; (with_reducible apply quiet_call_b); (with_reducible exact decRight_c ⟨_, _⟩ _); with_reducible assumption) | (go_at_call 61; (with_reducible apply quiet_call); with_reducible exact decRight_c ⟨_, _⟩ _) | (go_at_call 62; (with_reducible apply quiet_call_same); with_reducible exact power_c _ (by omega) (by omega) _))) | quiet_step ((first | (go_at_call 61; (with_reducible apply quiet_call_b); (with_reducible exact decRight_c _ _); with_reducible assumption) | (go_at_call 61; (with_reducible apply quiet_call); with_reducible exact decRight_c _ _) | (go_at_call 61; (with_reducible apply quiet_call_b); (with_reducible exact decRight_c ⟨_, _⟩ _); with_reducible assumption) | (go_at_call 61; (with_reducible apply quiet_call); with_reducible exact decRight_c ⟨_, _⟩ _) | (go_at_call 62; (with_reducible apply quiet_call_same); with_reducible exact power_c _ (by omega) (by omega) _)))))); (with_reducible refine wpQuiet_nil ?_); intro r) | ((with_reducible show Code.wp _ (Code.region 1 _ true) _ _ _); (with_reducible refine wp_more_quick (id := 1) ?_ ?_ ?_); kernel_rfl; kernel_rfl; (try simp only [List.take_succ_cons, List.take_zero, List.drop_succ_cons, List.drop_zero]); (repeat (any_goals (first | go_big_quiet_step ((first | (go_at_call 61; (with_reducible apply quiet_call_b); (with_reducible exact decRight_c _ _); with_reducible assumption) | (go_at_call 61; (with_reducible apply quiet_call); with_reducible exact decRight_c _ _) | (go_at_call 61; (with_reducible apply quiet_call_b); (with_reducible exact decRight_c ⟨_, _⟩ _); with_reducible assumption) | (go_at_call 61; (with_reducible apply quiet_call); with_reducible exact decRight_c ⟨_, _⟩ _) | (go_at_call 62; (with_reducible apply quiet_call_same); with_reducible exact power_c _ (by omega) (by omega) _))) | quiet_step ((first | (go_at_call 61; (with_reducible apply quiet_call_b); (with_reducible exact decRight_c _ _); with_reducible assumption) | (go_at_call 61; (with_reducible apply quiet_call); with_reducible exact decRight_c _ _) | (go_at_call 61; (with_reducible apply quiet_call_b); (with_reducible exact decRight_c ⟨_, _⟩ _); with_reducible assumption) | (go_at_call 61; (with_reducible apply quiet_call); with_reducible exact decRight_c ⟨_, _⟩ _) | (go_at_call 62; (with_reducible apply quiet_call_same); with_reducible exact power_c _ (by omega) (by omega) _)))))); (with_reducible refine wpQuiet_nil ?_); intro r))
    go_returns
    exact ⟨rfl, (by repeat (first | exact More.refl _ | refine More.alloc ?_ _ | refine More.more ?_ _ | refine More.drew ?_ | refine More.drewN ?_ _))⟩
  | true =>
    cases hr' : decRight ⟨c', s'⟩ with
    | false =>
      go_enter Tryz.func110, Tryz.ntmps110
      go_wp2_with (first | (go_at_call 61; (with_reducible refine (decRight_c _ _).mono ?_); rintro e w' ⟨rfl, r, rfl⟩) | (go_at_call 61; (with_reducible refine (decRight_c ⟨_, _⟩ _).mono ?_); rintro e w' ⟨rfl, r, rfl⟩) | (go_at_call 62; (with_reducible refine (power_c _ (by omega) (by omega) _).mono ?_); rintro e w' ⟨rfl, rfl⟩) | ((with_reducible show Code.wp _ (Code.region 1 _ true) _ _ _); (with_reducible refine wp_more_quick_m (id := 1) ?_ ?_ ?_); kernel_rfl; kernel_rfl; (try simp only [List.take_succ_cons, List.take_zero, List.drop_succ_cons, List.drop_zero]); (repeat (any_goals (first | go_big_quiet_step ((first | (go_at_call 61; (with_reducible apply quiet_call_b); (with_reducible exact decRight_c _ _); with_reducible assumption) | (go_at_call 61; (with_reducible apply quiet_call); with_reducible exact decRight_c _ _) | (go_at_call 61; (with_reducible apply quiet_call_b); (with_reducible exact decRight_c ⟨_, _⟩ _); with_reducible assumption) | (go_at_call 61; (with_reducible apply quiet_call); with_reducible exact decRight_c ⟨_, _⟩ _) | (go_at_call 62; (with_reducible apply quiet_call_same); with_reducible exact power_c _ (by omega) (by omega) _))) | quiet_step ((first | (go_at_call 61; (with_reducible apply quiet_call_b); (with_reducible exact decRight_c _ _); with_reducible assumption) | (go_at_call 61; (with_reducible apply quiet_call); with_reducible exact decRight_c _ _) | (go_at_call 61; (with_reducible apply quiet_call_b); (with_reducible exact decRight_c ⟨_, _⟩ _); with_reducible assumption) | (go_at_call 61; (with_reducible apply quiet_call); with_reducible exact decRight_c ⟨_, _⟩ _) | (go_at_call 62; (with_reducible apply quiet_call_same); with_reducible exact power_c _ (by omega) (by omega) _)))))); (with_reducible refine wpQuiet_nil ?_); intro r) | ((with_reducible show Code.wp _ (Code.region 1 _ true) _ _ _); (with_reducible refine wp_more_quick (id := 1) ?_ ?_ ?_); kernel_rfl; kernel_rfl; (try simp only [List.take_succ_cons, List.take_zero, List.drop_succ_cons, List.drop_zero]); (repeat (any_goals (first | go_big_quiet_step ((first | (go_at_call 61; (with_reducible apply quiet_call_b); (with_reducible exact decRight_c _ _); with_reducible assumption) | (go_at_call 61; (with_reducible apply quiet_call); with_reducible exact decRight_c _ _) | (go_at_call 61; (with_reducible apply quiet_call_b); (with_reducible exact decRight_c ⟨_, _⟩ _); with_reducible assumption) | (go_at_call 61; (with_reducible apply quiet_call); with_reducible exact decRight_c ⟨_, _⟩ _) | (go_at_call 62; (with_reducible apply quiet_call_same); with_reducible exact power_c _ (by omega) (by omega) _))) | quiet_step ((first | (go_at_call 61; (with_reducible apply quiet_call_b); (with_reducible exact decRight_c _ _); with_reducible assumption) | (go_at_call 61; (with_reducible apply quiet_call); with_reducible exact decRight_c _ _) | (go_at_call 61; (with_reducible apply quiet_call_b); (with_reducible exact decRight_c ⟨_, _⟩ _); with_reducible assumption) | (go_at_call 61; (with_reducible apply quiet_call); with_reducible exact decRight_c ⟨_, _⟩ _) | (go_at_call 62; (with_reducible apply quiet_call_same); with_reducible exact power_c _ (by omega) (by omega) _)))))); (with_reducible refine wpQuiet_nil ?_); intro r))
      go_returns
      exact ⟨rfl, (by repeat (first | exact More.refl _ | refine More.alloc ?_ _ | refine More.more ?_ _ | refine More.drew ?_ | refine More.drewN ?_ _))⟩
    | true =>
      obtain ⟨⟨h1, h2⟩, h3, h4, _⟩ := decRight_bd hr
      obtain ⟨⟨k1, k2⟩, k3, k4, _⟩ := decRight_bd hr'
      have hp := p10_bd s.toNat (by omega)
      have hp' := p10_bd s'.toNat (by omega)
      have hm := cmul_bd c (p10 s'.toNat) h1 h2 hp'.1 hp'.2
      have hm' := cmul_bd c' (p10 s.toNat) k1 k2 hp.1 hp.2
      go_enter Tryz.func110, Tryz.ntmps110
      go_wp2_with (first | (go_at_call 61; (with_reducible refine (decRight_c _ _).mono ?_); rintro e w' ⟨rfl, r, rfl⟩) | (go_at_call 61; (with_reducible refine (decRight_c ⟨_, _⟩ _).mono ?_); rintro e w' ⟨rfl, r, rfl⟩) | (go_at_call 62; (with_reducible refine (power_c _ (by omega) (by omega) _).mono ?_); rintro e w' ⟨rfl, rfl⟩) | ((with_reducible show Code.wp _ (Code.region 1 _ true) _ _ _); (with_reducible refine wp_more_quick_m (id := 1) ?_ ?_ ?_); kernel_rfl; kernel_rfl; (try simp only [List.take_succ_cons, List.take_zero, List.drop_succ_cons, List.drop_zero]); (repeat (any_goals (first | go_big_quiet_step ((first | (go_at_call 61; (with_reducible apply quiet_call_b); (with_reducible exact decRight_c _ _); with_reducible assumption) | (go_at_call 61; (with_reducible apply quiet_call); with_reducible exact decRight_c _ _) | (go_at_call 61; (with_reducible apply quiet_call_b); (with_reducible exact decRight_c ⟨_, _⟩ _); with_reducible assumption) | (go_at_call 61; (with_reducible apply quiet_call); with_reducible exact decRight_c ⟨_, _⟩ _) | (go_at_call 62; (with_reducible apply quiet_call_same); with_reducible exact power_c _ (by omega) (by omega) _))) | quiet_step ((first | (go_at_call 61; (with_reducible apply quiet_call_b); (with_reducible exact decRight_c _ _); with_reducible assumption) | (go_at_call 61; (with_reducible apply quiet_call); with_reducible exact decRight_c _ _) | (go_at_call 61; (with_reducible apply quiet_call_b); (with_reducible exact decRight_c ⟨_, _⟩ _); with_reducible assumption) | (go_at_call 61; (with_reducible apply quiet_call); with_reducible exact decRight_c ⟨_, _⟩ _) | (go_at_call 62; (with_reducible apply quiet_call_same); with_reducible exact power_c _ (by omega) (by omega) _)))))); (with_reducible refine wpQuiet_nil ?_); intro r) | ((with_reducible show Code.wp _ (Code.region 1 _ true) _ _ _); (with_reducible refine wp_more_quick (id := 1) ?_ ?_ ?_); kernel_rfl; kernel_rfl; (try simp only [List.take_succ_cons, List.take_zero, List.drop_succ_cons, List.drop_zero]); (repeat (any_goals (first | go_big_quiet_step ((first | (go_at_call 61; (with_reducible apply quiet_call_b); (with_reducible exact decRight_c _ _); with_reducible assumption) | (go_at_call 61; (with_reducible apply quiet_call); with_reducible exact decRight_c _ _) | (go_at_call 61; (with_reducible apply quiet_call_b); (with_reducible exact decRight_c ⟨_, _⟩ _); with_reducible assumption) | (go_at_call 61; (with_reducible apply quiet_call); with_reducible exact decRight_c ⟨_, _⟩ _) | (go_at_call 62; (with_reducible apply quiet_call_same); with_reducible exact power_c _ (by omega) (by omega) _))) | quiet_step ((first | (go_at_call 61; (with_reducible apply quiet_call_b); (with_reducible exact decRight_c _ _); with_reducible assumption) | (go_at_call 61; (with_reducible apply quiet_call); with_reducible exact decRight_c _ _) | (go_at_call 61; (with_reducible apply quiet_call_b); (with_reducible exact decRight_c ⟨_, _⟩ _); with_reducible assumption) | (go_at_call 61; (with_reducible apply quiet_call); with_reducible exact decRight_c ⟨_, _⟩ _) | (go_at_call 62; (with_reducible apply quiet_call_same); with_reducible exact power_c _ (by omega) (by omega) _)))))); (with_reducible refine wpQuiet_nil ?_); intro r))
      go_returns
      exact ⟨rfl, (by repeat (first | exact More.refl _ | refine More.alloc ?_ _ | refine More.more ?_ _ | refine More.drew ?_ | refine More.drewN ?_ _))⟩

end Go.Proofs.YtekhhekkepijoaaGreatDoor
