/-
  LexBlanks: the walk.
-/
import Derived.Test.YthhipepdkpoomaaDoorRead10
import Derived.Test.YthhipepdkpoomaaDoorBlanks
namespace Go.Proofs.YthhipepdkpoomaaDoor
set_option linter.unusedVariables false
open Go.ChangeShapes Go.WideShapes Go.ChangeAt Go.RowKit

def Words8 (w : World) (b : Nat) : Prop := ∀ k, k < 8 → w.cell? ⟨b, k, none⟩ = some (.string (bsOf (Wd k)))
theorem words8_new {W : World} : Words8 (W.alloc (.cells #[.string ⟨#[97]⟩, .string ⟨#[108, 101, 110, 115]⟩, .string ⟨#[45, 50, 46, 53]⟩, .string ⟨#[49, 55]⟩, .string ⟨#[120, 95, 49]⟩, .string ⟨#[102, 108, 105, 110, 116]⟩, .string ⟨#[48, 46, 50, 53]⟩, .string ⟨#[98, 45, 98]⟩] 47)) W.heap.size := by
  intro k hk
  simp only [World.cell?]
  rw [heap_alloc_new]
  match k with
  | 0 | 1 | 2 | 3 | 4 | 5 | 6 | 7 => rfl
  | n + 8 => omega
theorem more_plus2 (w : World) (r s t : Rest) : More (more w r) (more w ((r.plus s).plus t)) := ⟨s.plus t, by rw [more_more]; unfold Rest.plus; simp [Array.append_assoc]⟩
theorem flat_snoc {α : Type} (f : α → List UInt8) (xs : List α) (x : α) : (xs ++ [x]).flatMap f = xs.flatMap f ++ f x := by simp
theorem gap_take (p g : Nat) (hp : g % 2 = p) : rem8.take (8 * p) = if g % 2 = 1 then rem8 else [] := by
  have : p < 2 := by rw [← hp]; exact Nat.mod_lt _ (by omega)
  rw [hp]
  match p with
  | 0 => rfl
  | 1 => rfl
  | n + 2 => omega
/-- What holds of the two texts. -/
structure Two (xs : List (Nat × Nat)) (P Q : List UInt8) : Prop where
  p : xs.flatMap plainP = P
  q : xs.flatMap wideP = Q
  g : ∀ x ∈ xs, x.2 ≤ 4
theorem Two.len {xs : List (Nat × Nat)} {P Q : List UInt8} (h : Two xs P Q) : P.length ≤ xs.length * 6 ∧ Q.length ≤ xs.length * 11 := by
  obtain ⟨rfl, rfl, hg⟩ := h
  exact ⟨plain_len xs, wide_len xs hg⟩
theorem Two.line {xs : List (Nat × Nat)} {P Q : List UInt8} (h : Two xs P Q) (g p : Nat) (hg : g ≤ 4) (hp : g % 2 = p) : Two (xs ++ [(8, g)]) (P ++ [10]) (Q ++ (rem8.take (8 * p) ++ [10, 10])) := by
  obtain ⟨rfl, rfl, h3⟩ := h
  refine ⟨by rw [flat_snoc]; rfl, ?_, fun x hx => ?_⟩
  · rw [flat_snoc, gap_take p g hp]; rfl
  · rcases List.mem_append.1 hx with hx | hx
    · exact h3 x hx
    · rw [List.mem_singleton.1 hx]; exact hg
theorem Two.word {xs : List (Nat × Nat)} {P Q : List UInt8} (h : Two xs P Q) (g q : Nat) (hg : g ≤ 4) (hq : q < 8) : Two (xs ++ [(q, g)]) (P ++ (Wd q ++ [32])) (Q ++ ((List.replicate 4 32).take g ++ (Wd q ++ [32, 9]))) := by
  obtain ⟨rfl, rfl, h3⟩ := h
  have h8 : ¬ q = 8 := by omega
  refine ⟨?_, ?_, fun x hx => ?_⟩
  · rw [flat_snoc]
    unfold plainP
    rw [if_neg h8]
  · rw [flat_snoc, List.take_replicate, Nat.min_eq_left hg]
    unfold wideP
    rw [if_neg h8]
  · rcases List.mem_append.1 hx with hx | hx
    · exact h3 x hx
    · rw [List.mem_singleton.1 hx]; exact hg

set_option maxHeartbeats 16000000 in
set_option maxRecDepth 100000 in
theorem lexBlanks_walk (w : World) (s0 : Value) (l0 : List Int) (i0 : Ints w s0 l0) (k0 : ∀ n ∈ l0, -9223372036854775808 ≤ n ∧ n ≤ 9223372036854775807) (m0 : l0.length ≤ 9223372036854775807)
    (s1 : Value) (l1 : List Int) (i1 : Ints w s1 l1) (k1 : ∀ n ∈ l1, -9223372036854775808 ≤ n ∧ n ≤ 9223372036854775807) (m1 : l1.length ≤ 9223372036854775807) :
    Calls Tryd.prog 6 #[s0, s1] w fun e w' => e = .returned (.bool true) ∧ More w w' := by
  go_enter Tryd.func6, Tryd.ntmps6
  go_wp2_with (first | (go_at_call 8; (with_reducible refine (known10_c _).mono ?_); rintro e w' ⟨rfl, r, rfl⟩) | (go_at_call 13; (with_reducible refine (pick_c _ _ (by omega) (by omega) (by omega) (by omega) _).mono ?_); rintro e w' ⟨rfl, rfl⟩) | ((with_reducible show Code.wp _ (Code.region 23 _ true) _ _ _); (with_reducible refine wp_more_quick_m (id := 23) ?_ ?_ ?_); kernel_rfl; kernel_rfl; (try simp only [List.take_succ_cons, List.take_zero, List.drop_succ_cons, List.drop_zero]); (repeat (any_goals (first | go_big_quiet_step ((first | (go_at_call 8; (with_reducible apply quiet_call); with_reducible exact known10_c _) | (go_at_call 13; (with_reducible apply quiet_call_same); with_reducible exact pick_c _ _ (by omega) (by omega) (by omega) (by omega) _))) | quiet_step ((first | (go_at_call 8; (with_reducible apply quiet_call); with_reducible exact known10_c _) | (go_at_call 13; (with_reducible apply quiet_call_same); with_reducible exact pick_c _ _ (by omega) (by omega) (by omega) (by omega) _)))))); (with_reducible refine wpQuiet_nil ?_); intro r) | ((with_reducible show Code.wp _ (Code.region 23 _ true) _ _ _); (with_reducible refine wp_more_quick (id := 23) ?_ ?_ ?_); kernel_rfl; kernel_rfl; (try simp only [List.take_succ_cons, List.take_zero, List.drop_succ_cons, List.drop_zero]); (repeat (any_goals (first | go_big_quiet_step ((first | (go_at_call 8; (with_reducible apply quiet_call); with_reducible exact known10_c _) | (go_at_call 13; (with_reducible apply quiet_call_same); with_reducible exact pick_c _ _ (by omega) (by omega) (by omega) (by omega) _))) | quiet_step ((first | (go_at_call 8; (with_reducible apply quiet_call); with_reducible exact known10_c _) | (go_at_call 13; (with_reducible apply quiet_call_same); with_reducible exact pick_c _ _ (by omega) (by omega) (by omega) (by omega) _)))))); (with_reducible refine wpQuiet_nil ?_); intro r))
  go_loopw [6, 7, 8] (fun xp xq xi wr => ∃ (xs : List (Nat × Nat)) (P Q : List UInt8), xs.length ≤ 30 ∧ xs.length ≤ l0.length ∧ xp = .string (bsOf P) ∧ xq = .string (bsOf Q) ∧ xi = .int .i64 xs.length ∧ Two xs P Q ∧ More w wr ∧ Ints wr s0 l0 ∧ Ints wr s1 l1 ∧ Words8 wr w.heap.size) (fun _ _ xi _ => 30 - (intOf xi).toNat)
  case atStart => exact ⟨[], [], [], by simp, by simp, rfl, rfl, rfl, ⟨rfl, rfl, by simp⟩, (by repeat (first | exact More.refl _ | refine More.alloc ?_ _ | refine More.more ?_ _ | refine More.drew ?_ | refine More.drewN ?_ _)), i0.up (by repeat (first | exact More.refl _ | refine More.alloc ?_ _ | refine More.more ?_ _ | refine More.drew ?_ | refine More.drewN ?_ _)), i1.up (by repeat (first | exact More.refl _ | refine More.alloc ?_ _ | refine More.more ?_ _ | refine More.drew ?_ | refine More.drewN ?_ _)), words8_new⟩
  case round =>
    obtain ⟨xs, P, Q, hx30, hxl, rfl, rfl, rfl, hT, hM, hI, hJ, hW⟩ := hrel
    obtain ⟨ao, ca, rfl, hcl⟩ := ints_form hI
    obtain ⟨bo, cb, rfl, hcl1⟩ := ints_form hJ
    obtain ⟨hPl, hQl⟩ := hT.len
    have HM := Lib.hid hM
    have HI := Lib.hid hI
    have HJ := Lib.hid hJ
    have HW := Lib.hid hW
    have HC := Lib.hid hcl
    have HD := Lib.hid hcl1
    have HT := Lib.hid hT
    clear hM hI hJ hW hcl hcl1 hT
    obtain ⟨k, hk⟩ : ∃ k, xs.length = k := ⟨_, rfl⟩
    rw [hk] at hx30 hxl hPl hQl
    have hkx := hk
    rw [hk]
    have HK := Lib.hid hk
    clear hk
    by_cases hk : k < l0.length ∧ k < 30
    · obtain ⟨hk1, hk4⟩ := hk
      obtain ⟨b, o, rfl, hd⟩ := HC.out (by omega)
      obtain ⟨hb, f1⟩ := hd k hk1
      clear hd
      obtain ⟨y1, y2⟩ := k0 (l0.getD k 0) (by simp [List.getD, hk1])
      obtain ⟨y, hy⟩ : ∃ y, l0.getD k 0 = y := ⟨_, rfl⟩
      rw [hy] at f1 y1 y2
      clear hy
      have hex : ∀ n, (⟨#[9, 35, 32, 49, 32, 97, 32, 33]⟩ : ByteArray).extract 0 n = bsOf (rem8.take n) := fun n => extract_bs [9, 35, 32, 49, 32, 97, 32, 33] 0 n
      have hey : ∀ n, (⟨#[32, 32, 32, 32]⟩ : ByteArray).extract 0 n = bsOf ((List.replicate 4 32).take n) := fun n => extract_bs [32, 32, 32, 32] 0 n
      have r8 : ∀ n, (rem8.take n).length ≤ 8 := fun n => by rw [List.length_take]; exact Nat.min_le_right _ _
      have r4 : ∀ n, ((List.replicate 4 (32 : UInt8)).take n).length ≤ 4 := fun n => by rw [List.length_take]; exact Nat.min_le_right _ _
      by_cases hg : k < l1.length
      · obtain ⟨b2, o2, rfl, hd2⟩ := HD.out (by omega)
        obtain ⟨hb2, f4⟩ := hd2 k hg
        clear hd2
        obtain ⟨z1, z2⟩ := k1 (l1.getD k 0) (by simp [List.getD, hg])
        obtain ⟨z, hz⟩ : ∃ z, l1.getD k 0 = z := ⟨_, rfl⟩
        rw [hz] at f4 z1 z2
        clear hz
        go_wp2_with fail
        go_at_call 13
        refine Calls.mono (pick_nat _ _ _ z1 z2 (by omega) (by omega)) ?_
        rintro e w' ⟨g, rfl, hgg, rfl⟩
        have r81 := r8 (8 * (g % 2))
        go_wp2_with fail
        go_at_call 13
        refine Calls.mono (pick_nat _ _ _ y1 y2 (by omega) (by omega)) ?_
        rintro e w' ⟨q, rfl, hq, rfl⟩
        by_cases h7 : 7 < q
        · obtain ⟨p, hp⟩ : ∃ p, g % 2 = p := ⟨_, rfl⟩
          have hp2 : p < 2 := by rw [← hp]; exact Nat.mod_lt _ (by omega)
          have e1 : (g : Int).tmod 2 = (p : Int) := by rw [← hp]; first | exact (Int.ofNat_tmod g 2).symm | rfl
          have e2 : (g : Int) % 2 = (p : Int) := by rw [← hp]; omega
          have HN := Lib.hid (HT.out.line g p (by omega) hp)
          clear hp
          go_wp2_with (first | (go_at_call 8; (with_reducible refine (known10_c _).mono ?_); rintro e w' ⟨rfl, r, rfl⟩) | (go_at_call 13; (with_reducible refine (pick_c _ _ (by omega) (by omega) (by omega) (by omega) _).mono ?_); rintro e w' ⟨rfl, rfl⟩) | ((with_reducible show Code.wp _ (Code.region 23 _ true) _ _ _); (with_reducible refine wp_more_quick_m (id := 23) ?_ ?_ ?_); kernel_rfl; kernel_rfl; (try simp only [List.take_succ_cons, List.take_zero, List.drop_succ_cons, List.drop_zero]); (repeat (any_goals (first | go_big_quiet_step ((first | (go_at_call 8; (with_reducible apply quiet_call); with_reducible exact known10_c _) | (go_at_call 13; (with_reducible apply quiet_call_same); with_reducible exact pick_c _ _ (by omega) (by omega) (by omega) (by omega) _))) | quiet_step ((first | (go_at_call 8; (with_reducible apply quiet_call); with_reducible exact known10_c _) | (go_at_call 13; (with_reducible apply quiet_call_same); with_reducible exact pick_c _ _ (by omega) (by omega) (by omega) (by omega) _)))))); (with_reducible refine wpQuiet_nil ?_); intro r) | ((with_reducible show Code.wp _ (Code.region 23 _ true) _ _ _); (with_reducible refine wp_more_quick (id := 23) ?_ ?_ ?_); kernel_rfl; kernel_rfl; (try simp only [List.take_succ_cons, List.take_zero, List.drop_succ_cons, List.drop_zero]); (repeat (any_goals (first | go_big_quiet_step ((first | (go_at_call 8; (with_reducible apply quiet_call); with_reducible exact known10_c _) | (go_at_call 13; (with_reducible apply quiet_call_same); with_reducible exact pick_c _ _ (by omega) (by omega) (by omega) (by omega) _))) | quiet_step ((first | (go_at_call 8; (with_reducible apply quiet_call); with_reducible exact known10_c _) | (go_at_call 13; (with_reducible apply quiet_call_same); with_reducible exact pick_c _ _ (by omega) (by omega) (by omega) (by omega) _)))))); (with_reducible refine wpQuiet_nil ?_); intro r))
          go_roundw
          case rel => exact ⟨xs ++ [(8, g)], _, _, by simp only [List.length_append, List.length_singleton]; omega, by simp only [List.length_append, List.length_singleton]; omega, rfl, (by first | rfl | simp), (by exact int_is (by simp only [List.length_append, List.length_singleton]; omega)), HN.out, HM.out, HI.out, HJ.out, HW.out⟩
          case measure => simp [intOf] <;> omega
        · go_wp2_with fail
          go_at_call 13
          refine Calls.mono (pick_nat _ _ _ y1 y2 (by omega) (by omega)) ?_
          rintro e w' ⟨v, rfl, hv, rfl⟩
          have f2 := HW.out v (by omega)
          have f3 := Wd_len v
          have HN := Lib.hid (HT.out.word g v (by omega) (by omega))
          go_wp2_with (first | (go_at_call 8; (with_reducible refine (known10_c _).mono ?_); rintro e w' ⟨rfl, r, rfl⟩) | (go_at_call 13; (with_reducible refine (pick_c _ _ (by omega) (by omega) (by omega) (by omega) _).mono ?_); rintro e w' ⟨rfl, rfl⟩) | ((with_reducible show Code.wp _ (Code.region 23 _ true) _ _ _); (with_reducible refine wp_more_quick_m (id := 23) ?_ ?_ ?_); kernel_rfl; kernel_rfl; (try simp only [List.take_succ_cons, List.take_zero, List.drop_succ_cons, List.drop_zero]); (repeat (any_goals (first | go_big_quiet_step ((first | (go_at_call 8; (with_reducible apply quiet_call); with_reducible exact known10_c _) | (go_at_call 13; (with_reducible apply quiet_call_same); with_reducible exact pick_c _ _ (by omega) (by omega) (by omega) (by omega) _))) | quiet_step ((first | (go_at_call 8; (with_reducible apply quiet_call); with_reducible exact known10_c _) | (go_at_call 13; (with_reducible apply quiet_call_same); with_reducible exact pick_c _ _ (by omega) (by omega) (by omega) (by omega) _)))))); (with_reducible refine wpQuiet_nil ?_); intro r) | ((with_reducible show Code.wp _ (Code.region 23 _ true) _ _ _); (with_reducible refine wp_more_quick (id := 23) ?_ ?_ ?_); kernel_rfl; kernel_rfl; (try simp only [List.take_succ_cons, List.take_zero, List.drop_succ_cons, List.drop_zero]); (repeat (any_goals (first | go_big_quiet_step ((first | (go_at_call 8; (with_reducible apply quiet_call); with_reducible exact known10_c _) | (go_at_call 13; (with_reducible apply quiet_call_same); with_reducible exact pick_c _ _ (by omega) (by omega) (by omega) (by omega) _))) | quiet_step ((first | (go_at_call 8; (with_reducible apply quiet_call); with_reducible exact known10_c _) | (go_at_call 13; (with_reducible apply quiet_call_same); with_reducible exact pick_c _ _ (by omega) (by omega) (by omega) (by omega) _)))))); (with_reducible refine wpQuiet_nil ?_); intro r))
          go_roundw
          case rel => exact ⟨xs ++ [(v, g)], _, _, by simp only [List.length_append, List.length_singleton]; omega, by simp only [List.length_append, List.length_singleton]; omega, (by first | rfl | simp), (by first | rfl | simp), (by exact int_is (by simp only [List.length_append, List.length_singleton]; omega)), HN.out, HM.out, HI.out, HJ.out, HW.out⟩
          case measure => simp [intOf] <;> omega
      · skip
        go_wp2_with fail
        go_at_call 13
        refine Calls.mono (pick_nat _ _ _ y1 y2 (by omega) (by omega)) ?_
        rintro e w' ⟨q, rfl, hq, rfl⟩
        by_cases h7 : 7 < q
        · have hp : 0 % 2 = 0 := rfl
          have HN := Lib.hid (HT.out.line 0 0 (by omega) hp)
          clear hp
          go_wp2_with (first | (go_at_call 8; (with_reducible refine (known10_c _).mono ?_); rintro e w' ⟨rfl, r, rfl⟩) | (go_at_call 13; (with_reducible refine (pick_c _ _ (by omega) (by omega) (by omega) (by omega) _).mono ?_); rintro e w' ⟨rfl, rfl⟩) | ((with_reducible show Code.wp _ (Code.region 23 _ true) _ _ _); (with_reducible refine wp_more_quick_m (id := 23) ?_ ?_ ?_); kernel_rfl; kernel_rfl; (try simp only [List.take_succ_cons, List.take_zero, List.drop_succ_cons, List.drop_zero]); (repeat (any_goals (first | go_big_quiet_step ((first | (go_at_call 8; (with_reducible apply quiet_call); with_reducible exact known10_c _) | (go_at_call 13; (with_reducible apply quiet_call_same); with_reducible exact pick_c _ _ (by omega) (by omega) (by omega) (by omega) _))) | quiet_step ((first | (go_at_call 8; (with_reducible apply quiet_call); with_reducible exact known10_c _) | (go_at_call 13; (with_reducible apply quiet_call_same); with_reducible exact pick_c _ _ (by omega) (by omega) (by omega) (by omega) _)))))); (with_reducible refine wpQuiet_nil ?_); intro r) | ((with_reducible show Code.wp _ (Code.region 23 _ true) _ _ _); (with_reducible refine wp_more_quick (id := 23) ?_ ?_ ?_); kernel_rfl; kernel_rfl; (try simp only [List.take_succ_cons, List.take_zero, List.drop_succ_cons, List.drop_zero]); (repeat (any_goals (first | go_big_quiet_step ((first | (go_at_call 8; (with_reducible apply quiet_call); with_reducible exact known10_c _) | (go_at_call 13; (with_reducible apply quiet_call_same); with_reducible exact pick_c _ _ (by omega) (by omega) (by omega) (by omega) _))) | quiet_step ((first | (go_at_call 8; (with_reducible apply quiet_call); with_reducible exact known10_c _) | (go_at_call 13; (with_reducible apply quiet_call_same); with_reducible exact pick_c _ _ (by omega) (by omega) (by omega) (by omega) _)))))); (with_reducible refine wpQuiet_nil ?_); intro r))
          go_roundw
          case rel => exact ⟨xs ++ [(8, 0)], _, _, by simp only [List.length_append, List.length_singleton]; omega, by simp only [List.length_append, List.length_singleton]; omega, rfl, (by first | rfl | simp), (by exact int_is (by simp only [List.length_append, List.length_singleton]; omega)), HN.out, HM.out, HI.out, HJ.out, HW.out⟩
          case measure => simp [intOf] <;> omega
        · go_wp2_with fail
          go_at_call 13
          refine Calls.mono (pick_nat _ _ _ y1 y2 (by omega) (by omega)) ?_
          rintro e w' ⟨v, rfl, hv, rfl⟩
          have f2 := HW.out v (by omega)
          have f3 := Wd_len v
          have HN := Lib.hid (HT.out.word 0 v (by omega) (by omega))
          go_wp2_with (first | (go_at_call 8; (with_reducible refine (known10_c _).mono ?_); rintro e w' ⟨rfl, r, rfl⟩) | (go_at_call 13; (with_reducible refine (pick_c _ _ (by omega) (by omega) (by omega) (by omega) _).mono ?_); rintro e w' ⟨rfl, rfl⟩) | ((with_reducible show Code.wp _ (Code.region 23 _ true) _ _ _); (with_reducible refine wp_more_quick_m (id := 23) ?_ ?_ ?_); kernel_rfl; kernel_rfl; (try simp only [List.take_succ_cons, List.take_zero, List.drop_succ_cons, List.drop_zero]); (repeat (any_goals (first | go_big_quiet_step ((first | (go_at_call 8; (with_reducible apply quiet_call); with_reducible exact known10_c _) | (go_at_call 13; (with_reducible apply quiet_call_same); with_reducible exact pick_c _ _ (by omega) (by omega) (by omega) (by omega) _))) | quiet_step ((first | (go_at_call 8; (with_reducible apply quiet_call); with_reducible exact known10_c _) | (go_at_call 13; (with_reducible apply quiet_call_same); with_reducible exact pick_c _ _ (by omega) (by omega) (by omega) (by omega) _)))))); (with_reducible refine wpQuiet_nil ?_); intro r) | ((with_reducible show Code.wp _ (Code.region 23 _ true) _ _ _); (with_reducible refine wp_more_quick (id := 23) ?_ ?_ ?_); kernel_rfl; kernel_rfl; (try simp only [List.take_succ_cons, List.take_zero, List.drop_succ_cons, List.drop_zero]); (repeat (any_goals (first | go_big_quiet_step ((first | (go_at_call 8; (with_reducible apply quiet_call); with_reducible exact known10_c _) | (go_at_call 13; (with_reducible apply quiet_call_same); with_reducible exact pick_c _ _ (by omega) (by omega) (by omega) (by omega) _))) | quiet_step ((first | (go_at_call 8; (with_reducible apply quiet_call); with_reducible exact known10_c _) | (go_at_call 13; (with_reducible apply quiet_call_same); with_reducible exact pick_c _ _ (by omega) (by omega) (by omega) (by omega) _)))))); (with_reducible refine wpQuiet_nil ?_); intro r))
          go_roundw
          case rel => exact ⟨xs ++ [(v, 0)], _, _, by simp only [List.length_append, List.length_singleton]; omega, by simp only [List.length_append, List.length_singleton]; omega, (by first | rfl | simp), (by first | rfl | simp), (by exact int_is (by simp only [List.length_append, List.length_singleton]; omega)), HN.out, HM.out, HI.out, HJ.out, HW.out⟩
          case measure => simp [intOf] <;> omega
    · have hfin : xs.length ≤ 30 := by omega
      obtain ⟨hP, hQ, hg⟩ := HT.out
      have hb := blanks_same xs hg hfin
      have hn := kt_len xs false
      rw [hP, hQ] at hb
      obtain ⟨hb1, hb2⟩ := hb
      obtain ⟨e1, e2, e3⟩ := kt_at hb1 hb2
      obtain ⟨⟨T1, L1, C1, E1⟩, hx1⟩ : ∃ x, lexP P = x := ⟨_, rfl⟩
      obtain ⟨⟨T2, L2, C2, E2⟩, hx2⟩ : ∃ x, lexP Q = x := ⟨_, rfl⟩
      rw [hx1] at hb1 e1 e3
      rw [hx2] at hb2 e2 e3
      obtain ⟨p1, p2, p3, -⟩ := hb1
      obtain ⟨p4, p5, p6, -⟩ := hb2
      dsimp only at p1 p2 p3 p4 p5 p6 e1 e2 e3
      subst p1 p2 p3 p4 p5 p6
      have hN : T1.length ≤ 100 := by omega
      have hl : T2.length = T1.length := by omega
      have HL := Lib.hid hl
      have HE := Lib.hid e3
      clear e1 e2 e3 hl hn hP hQ hg
      have z0 := nw_zero
      by_cases hk1 : k < l0.length
      · have hk30 : k = 30 := by omega
        have hk31 : ¬ (k : Int) < 30 := by omega
        go_wp2_with fail
        go_at_call 7
        refine Calls.mono (tokens_x P hx1 (by omega) _) ?_
        rintro e w' ⟨v1, rfl, ⟨r1, rfl⟩, hr1⟩
        try dsimp only at hr1
        obtain ⟨uo, ua, rfl, -⟩ := grow_form (fun _ => by rw [tk3_len]; decide) hr1
        try simp only [more_more] at hr1
        have HR1 := Lib.hid hr1
        clear hr1
        go_wp2_with fail
        go_at_call 7
        refine Calls.mono (tokens_x Q hx2 (by omega) _) ?_
        rintro e w' ⟨v2, rfl, ⟨r2, rfl⟩, hr2⟩
        try dsimp only at hr2
        obtain ⟨vo, va, hv, -⟩ := grow_form (fun _ => by rw [tk3_len]; decide) hr2
        rw [HL.out] at hv
        subst hv
        try simp only [more_more] at hr2
        have HR2 := Lib.hid hr2
        clear hr2
        go_wp2_with (first | (go_at_call 8; (with_reducible refine (known10_c _).mono ?_); rintro e w' ⟨rfl, r, rfl⟩) | (go_at_call 13; (with_reducible refine (pick_c _ _ (by omega) (by omega) (by omega) (by omega) _).mono ?_); rintro e w' ⟨rfl, rfl⟩) | ((with_reducible show Code.wp _ (Code.region 23 _ true) _ _ _); (with_reducible refine wp_more_quick_m (id := 23) ?_ ?_ ?_); kernel_rfl; kernel_rfl; (try simp only [List.take_succ_cons, List.take_zero, List.drop_succ_cons, List.drop_zero]); (repeat (any_goals (first | go_big_quiet_step ((first | (go_at_call 8; (with_reducible apply quiet_call); with_reducible exact known10_c _) | (go_at_call 13; (with_reducible apply quiet_call_same); with_reducible exact pick_c _ _ (by omega) (by omega) (by omega) (by omega) _))) | quiet_step ((first | (go_at_call 8; (with_reducible apply quiet_call); with_reducible exact known10_c _) | (go_at_call 13; (with_reducible apply quiet_call_same); with_reducible exact pick_c _ _ (by omega) (by omega) (by omega) (by omega) _)))))); (with_reducible refine wpQuiet_nil ?_); intro r) | ((with_reducible show Code.wp _ (Code.region 23 _ true) _ _ _); (with_reducible refine wp_more_quick (id := 23) ?_ ?_ ?_); kernel_rfl; kernel_rfl; (try simp only [List.take_succ_cons, List.take_zero, List.drop_succ_cons, List.drop_zero]); (repeat (any_goals (first | go_big_quiet_step ((first | (go_at_call 8; (with_reducible apply quiet_call); with_reducible exact known10_c _) | (go_at_call 13; (with_reducible apply quiet_call_same); with_reducible exact pick_c _ _ (by omega) (by omega) (by omega) (by omega) _))) | quiet_step ((first | (go_at_call 8; (with_reducible apply quiet_call); with_reducible exact known10_c _) | (go_at_call 13; (with_reducible apply quiet_call_same); with_reducible exact pick_c _ _ (by omega) (by omega) (by omega) (by omega) _)))))); (with_reducible refine wpQuiet_nil ?_); intro r))
        go_loopw [102] (fun x wr => ∃ k : Nat, k ≤ T1.length ∧ x = .int .i64 k ∧ More w wr ∧ GRow tk3 3 wr (.slice uo T1.length ua) T1 ∧ GRow tk3 3 wr (.slice vo T1.length va) T2) (fun x _ => T1.length - (intOf x).toNat)
        case atStart => exact ⟨0, by omega, rfl, HM.out.trans (by repeat (first | exact More.refl _ | refine More.alloc ?_ _ | refine More.more ?_ _ | refine More.drew ?_ | refine More.drewN ?_ _)), HR1.out.up (by repeat (first | exact More.refl _ | exact more_plus _ _ _ | exact more_plus2 _ _ _ _ | refine More.alloc ?_ _ | refine More.more ?_ _ | refine More.drew ?_ | refine More.drewN ?_ _)), HR2.out.up (by repeat (first | exact More.refl _ | exact more_plus _ _ _ | exact more_plus2 _ _ _ _ | refine More.alloc ?_ _ | refine More.more ?_ _ | refine More.drew ?_ | refine More.drewN ?_ _))⟩
        case round =>
          obtain ⟨k, hk, rfl, hM, h1, h2⟩ := hrel
          have HM2 := Lib.hid hM
          have H1 := Lib.hid h1
          have H2 := Lib.hid h2
          clear hM
          by_cases hkl : k < T1.length
          · obtain ⟨⟨K, X, tl, tc⟩, ht⟩ : ∃ t, T1[k]? = some t := ⟨T1[k], List.getElem?_eq_getElem hkl⟩
            obtain ⟨⟨K', X', tl', tc'⟩, ht'⟩ : ∃ t, T2[k]? = some t := ⟨T2[k]'(by have := HL.out; omega), List.getElem?_eq_getElem _⟩
            obtain ⟨q1, q2⟩ := HE.out k _ _ ht ht'
            dsimp only at q1 q2
            subst q1 q2
            obtain ⟨b1, o1, rfl, hb1, d1⟩ := grow_at h1 ht (by rw [tk3_len]; decide)
            obtain ⟨b2, o2, rfl, hb2, d2⟩ := grow_at h2 ht' (by rw [tk3_len]; decide)
            have c0 := d1 0 (.int .i64 K) rfl
            have c1 := d1 1 (.string (bsOf X)) rfl
            have c2 := d2 0 (.int .i64 K) rfl
            have c3 := d2 1 (.string (bsOf X)) rfl
            rw [Nat.add_zero] at c0 c2
            clear d1 d2 h1 h2 ht ht'
            go_wp2_with (first | (go_at_call 8; (with_reducible refine (known10_c _).mono ?_); rintro e w' ⟨rfl, r, rfl⟩) | (go_at_call 13; (with_reducible refine (pick_c _ _ (by omega) (by omega) (by omega) (by omega) _).mono ?_); rintro e w' ⟨rfl, rfl⟩) | ((with_reducible show Code.wp _ (Code.region 23 _ true) _ _ _); (with_reducible refine wp_more_quick_m (id := 23) ?_ ?_ ?_); kernel_rfl; kernel_rfl; (try simp only [List.take_succ_cons, List.take_zero, List.drop_succ_cons, List.drop_zero]); (repeat (any_goals (first | go_big_quiet_step ((first | (go_at_call 8; (with_reducible apply quiet_call); with_reducible exact known10_c _) | (go_at_call 13; (with_reducible apply quiet_call_same); with_reducible exact pick_c _ _ (by omega) (by omega) (by omega) (by omega) _))) | quiet_step ((first | (go_at_call 8; (with_reducible apply quiet_call); with_reducible exact known10_c _) | (go_at_call 13; (with_reducible apply quiet_call_same); with_reducible exact pick_c _ _ (by omega) (by omega) (by omega) (by omega) _)))))); (with_reducible refine wpQuiet_nil ?_); intro r) | ((with_reducible show Code.wp _ (Code.region 23 _ true) _ _ _); (with_reducible refine wp_more_quick (id := 23) ?_ ?_ ?_); kernel_rfl; kernel_rfl; (try simp only [List.take_succ_cons, List.take_zero, List.drop_succ_cons, List.drop_zero]); (repeat (any_goals (first | go_big_quiet_step ((first | (go_at_call 8; (with_reducible apply quiet_call); with_reducible exact known10_c _) | (go_at_call 13; (with_reducible apply quiet_call_same); with_reducible exact pick_c _ _ (by omega) (by omega) (by omega) (by omega) _))) | quiet_step ((first | (go_at_call 8; (with_reducible apply quiet_call); with_reducible exact known10_c _) | (go_at_call 13; (with_reducible apply quiet_call_same); with_reducible exact pick_c _ _ (by omega) (by omega) (by omega) (by omega) _)))))); (with_reducible refine wpQuiet_nil ?_); intro r))
            go_roundw
            case rel => exact ⟨k + 1, by omega, rfl, HM2.out.trans (by repeat (first | exact More.refl _ | refine More.alloc ?_ _ | refine More.more ?_ _ | refine More.drew ?_ | refine More.drewN ?_ _)), H1.out.up (by repeat (first | exact More.refl _ | refine More.alloc ?_ _ | refine More.more ?_ _ | refine More.drew ?_ | refine More.drewN ?_ _)), H2.out.up (by repeat (first | exact More.refl _ | refine More.alloc ?_ _ | refine More.more ?_ _ | refine More.drew ?_ | refine More.drewN ?_ _))⟩
            case measure => simp [intOf] <;> omega
          · obtain rfl : k = T1.length := by omega
            clear h1 h2
            go_wp2_with (first | (go_at_call 8; (with_reducible refine (known10_c _).mono ?_); rintro e w' ⟨rfl, r, rfl⟩) | (go_at_call 13; (with_reducible refine (pick_c _ _ (by omega) (by omega) (by omega) (by omega) _).mono ?_); rintro e w' ⟨rfl, rfl⟩) | ((with_reducible show Code.wp _ (Code.region 23 _ true) _ _ _); (with_reducible refine wp_more_quick_m (id := 23) ?_ ?_ ?_); kernel_rfl; kernel_rfl; (try simp only [List.take_succ_cons, List.take_zero, List.drop_succ_cons, List.drop_zero]); (repeat (any_goals (first | go_big_quiet_step ((first | (go_at_call 8; (with_reducible apply quiet_call); with_reducible exact known10_c _) | (go_at_call 13; (with_reducible apply quiet_call_same); with_reducible exact pick_c _ _ (by omega) (by omega) (by omega) (by omega) _))) | quiet_step ((first | (go_at_call 8; (with_reducible apply quiet_call); with_reducible exact known10_c _) | (go_at_call 13; (with_reducible apply quiet_call_same); with_reducible exact pick_c _ _ (by omega) (by omega) (by omega) (by omega) _)))))); (with_reducible refine wpQuiet_nil ?_); intro r) | ((with_reducible show Code.wp _ (Code.region 23 _ true) _ _ _); (with_reducible refine wp_more_quick (id := 23) ?_ ?_ ?_); kernel_rfl; kernel_rfl; (try simp only [List.take_succ_cons, List.take_zero, List.drop_succ_cons, List.drop_zero]); (repeat (any_goals (first | go_big_quiet_step ((first | (go_at_call 8; (with_reducible apply quiet_call); with_reducible exact known10_c _) | (go_at_call 13; (with_reducible apply quiet_call_same); with_reducible exact pick_c _ _ (by omega) (by omega) (by omega) (by omega) _))) | quiet_step ((first | (go_at_call 8; (with_reducible apply quiet_call); with_reducible exact known10_c _) | (go_at_call 13; (with_reducible apply quiet_call_same); with_reducible exact pick_c _ _ (by omega) (by omega) (by omega) (by omega) _)))))); (with_reducible refine wpQuiet_nil ?_); intro r))
            go_returns
            exact ⟨rfl, HM2.out.trans (by repeat (first | exact More.refl _ | refine More.alloc ?_ _ | refine More.more ?_ _ | refine More.drew ?_ | refine More.drewN ?_ _))⟩
      · skip
        go_wp2_with fail
        go_at_call 7
        refine Calls.mono (tokens_x P hx1 (by omega) _) ?_
        rintro e w' ⟨v1, rfl, ⟨r1, rfl⟩, hr1⟩
        try dsimp only at hr1
        obtain ⟨uo, ua, rfl, -⟩ := grow_form (fun _ => by rw [tk3_len]; decide) hr1
        try simp only [more_more] at hr1
        have HR1 := Lib.hid hr1
        clear hr1
        go_wp2_with fail
        go_at_call 7
        refine Calls.mono (tokens_x Q hx2 (by omega) _) ?_
        rintro e w' ⟨v2, rfl, ⟨r2, rfl⟩, hr2⟩
        try dsimp only at hr2
        obtain ⟨vo, va, hv, -⟩ := grow_form (fun _ => by rw [tk3_len]; decide) hr2
        rw [HL.out] at hv
        subst hv
        try simp only [more_more] at hr2
        have HR2 := Lib.hid hr2
        clear hr2
        go_wp2_with (first | (go_at_call 8; (with_reducible refine (known10_c _).mono ?_); rintro e w' ⟨rfl, r, rfl⟩) | (go_at_call 13; (with_reducible refine (pick_c _ _ (by omega) (by omega) (by omega) (by omega) _).mono ?_); rintro e w' ⟨rfl, rfl⟩) | ((with_reducible show Code.wp _ (Code.region 23 _ true) _ _ _); (with_reducible refine wp_more_quick_m (id := 23) ?_ ?_ ?_); kernel_rfl; kernel_rfl; (try simp only [List.take_succ_cons, List.take_zero, List.drop_succ_cons, List.drop_zero]); (repeat (any_goals (first | go_big_quiet_step ((first | (go_at_call 8; (with_reducible apply quiet_call); with_reducible exact known10_c _) | (go_at_call 13; (with_reducible apply quiet_call_same); with_reducible exact pick_c _ _ (by omega) (by omega) (by omega) (by omega) _))) | quiet_step ((first | (go_at_call 8; (with_reducible apply quiet_call); with_reducible exact known10_c _) | (go_at_call 13; (with_reducible apply quiet_call_same); with_reducible exact pick_c _ _ (by omega) (by omega) (by omega) (by omega) _)))))); (with_reducible refine wpQuiet_nil ?_); intro r) | ((with_reducible show Code.wp _ (Code.region 23 _ true) _ _ _); (with_reducible refine wp_more_quick (id := 23) ?_ ?_ ?_); kernel_rfl; kernel_rfl; (try simp only [List.take_succ_cons, List.take_zero, List.drop_succ_cons, List.drop_zero]); (repeat (any_goals (first | go_big_quiet_step ((first | (go_at_call 8; (with_reducible apply quiet_call); with_reducible exact known10_c _) | (go_at_call 13; (with_reducible apply quiet_call_same); with_reducible exact pick_c _ _ (by omega) (by omega) (by omega) (by omega) _))) | quiet_step ((first | (go_at_call 8; (with_reducible apply quiet_call); with_reducible exact known10_c _) | (go_at_call 13; (with_reducible apply quiet_call_same); with_reducible exact pick_c _ _ (by omega) (by omega) (by omega) (by omega) _)))))); (with_reducible refine wpQuiet_nil ?_); intro r))
        go_loopw [102] (fun x wr => ∃ k : Nat, k ≤ T1.length ∧ x = .int .i64 k ∧ More w wr ∧ GRow tk3 3 wr (.slice uo T1.length ua) T1 ∧ GRow tk3 3 wr (.slice vo T1.length va) T2) (fun x _ => T1.length - (intOf x).toNat)
        case atStart => exact ⟨0, by omega, rfl, HM.out.trans (by repeat (first | exact More.refl _ | refine More.alloc ?_ _ | refine More.more ?_ _ | refine More.drew ?_ | refine More.drewN ?_ _)), HR1.out.up (by repeat (first | exact More.refl _ | exact more_plus _ _ _ | exact more_plus2 _ _ _ _ | refine More.alloc ?_ _ | refine More.more ?_ _ | refine More.drew ?_ | refine More.drewN ?_ _)), HR2.out.up (by repeat (first | exact More.refl _ | exact more_plus _ _ _ | exact more_plus2 _ _ _ _ | refine More.alloc ?_ _ | refine More.more ?_ _ | refine More.drew ?_ | refine More.drewN ?_ _))⟩
        case round =>
          obtain ⟨k, hk, rfl, hM, h1, h2⟩ := hrel
          have HM2 := Lib.hid hM
          have H1 := Lib.hid h1
          have H2 := Lib.hid h2
          clear hM
          by_cases hkl : k < T1.length
          · obtain ⟨⟨K, X, tl, tc⟩, ht⟩ : ∃ t, T1[k]? = some t := ⟨T1[k], List.getElem?_eq_getElem hkl⟩
            obtain ⟨⟨K', X', tl', tc'⟩, ht'⟩ : ∃ t, T2[k]? = some t := ⟨T2[k]'(by have := HL.out; omega), List.getElem?_eq_getElem _⟩
            obtain ⟨q1, q2⟩ := HE.out k _ _ ht ht'
            dsimp only at q1 q2
            subst q1 q2
            obtain ⟨b1, o1, rfl, hb1, d1⟩ := grow_at h1 ht (by rw [tk3_len]; decide)
            obtain ⟨b2, o2, rfl, hb2, d2⟩ := grow_at h2 ht' (by rw [tk3_len]; decide)
            have c0 := d1 0 (.int .i64 K) rfl
            have c1 := d1 1 (.string (bsOf X)) rfl
            have c2 := d2 0 (.int .i64 K) rfl
            have c3 := d2 1 (.string (bsOf X)) rfl
            rw [Nat.add_zero] at c0 c2
            clear d1 d2 h1 h2 ht ht'
            go_wp2_with (first | (go_at_call 8; (with_reducible refine (known10_c _).mono ?_); rintro e w' ⟨rfl, r, rfl⟩) | (go_at_call 13; (with_reducible refine (pick_c _ _ (by omega) (by omega) (by omega) (by omega) _).mono ?_); rintro e w' ⟨rfl, rfl⟩) | ((with_reducible show Code.wp _ (Code.region 23 _ true) _ _ _); (with_reducible refine wp_more_quick_m (id := 23) ?_ ?_ ?_); kernel_rfl; kernel_rfl; (try simp only [List.take_succ_cons, List.take_zero, List.drop_succ_cons, List.drop_zero]); (repeat (any_goals (first | go_big_quiet_step ((first | (go_at_call 8; (with_reducible apply quiet_call); with_reducible exact known10_c _) | (go_at_call 13; (with_reducible apply quiet_call_same); with_reducible exact pick_c _ _ (by omega) (by omega) (by omega) (by omega) _))) | quiet_step ((first | (go_at_call 8; (with_reducible apply quiet_call); with_reducible exact known10_c _) | (go_at_call 13; (with_reducible apply quiet_call_same); with_reducible exact pick_c _ _ (by omega) (by omega) (by omega) (by omega) _)))))); (with_reducible refine wpQuiet_nil ?_); intro r) | ((with_reducible show Code.wp _ (Code.region 23 _ true) _ _ _); (with_reducible refine wp_more_quick (id := 23) ?_ ?_ ?_); kernel_rfl; kernel_rfl; (try simp only [List.take_succ_cons, List.take_zero, List.drop_succ_cons, List.drop_zero]); (repeat (any_goals (first | go_big_quiet_step ((first | (go_at_call 8; (with_reducible apply quiet_call); with_reducible exact known10_c _) | (go_at_call 13; (with_reducible apply quiet_call_same); with_reducible exact pick_c _ _ (by omega) (by omega) (by omega) (by omega) _))) | quiet_step ((first | (go_at_call 8; (with_reducible apply quiet_call); with_reducible exact known10_c _) | (go_at_call 13; (with_reducible apply quiet_call_same); with_reducible exact pick_c _ _ (by omega) (by omega) (by omega) (by omega) _)))))); (with_reducible refine wpQuiet_nil ?_); intro r))
            go_roundw
            case rel => exact ⟨k + 1, by omega, rfl, HM2.out.trans (by repeat (first | exact More.refl _ | refine More.alloc ?_ _ | refine More.more ?_ _ | refine More.drew ?_ | refine More.drewN ?_ _)), H1.out.up (by repeat (first | exact More.refl _ | refine More.alloc ?_ _ | refine More.more ?_ _ | refine More.drew ?_ | refine More.drewN ?_ _)), H2.out.up (by repeat (first | exact More.refl _ | refine More.alloc ?_ _ | refine More.more ?_ _ | refine More.drew ?_ | refine More.drewN ?_ _))⟩
            case measure => simp [intOf] <;> omega
          · obtain rfl : k = T1.length := by omega
            clear h1 h2
            go_wp2_with (first | (go_at_call 8; (with_reducible refine (known10_c _).mono ?_); rintro e w' ⟨rfl, r, rfl⟩) | (go_at_call 13; (with_reducible refine (pick_c _ _ (by omega) (by omega) (by omega) (by omega) _).mono ?_); rintro e w' ⟨rfl, rfl⟩) | ((with_reducible show Code.wp _ (Code.region 23 _ true) _ _ _); (with_reducible refine wp_more_quick_m (id := 23) ?_ ?_ ?_); kernel_rfl; kernel_rfl; (try simp only [List.take_succ_cons, List.take_zero, List.drop_succ_cons, List.drop_zero]); (repeat (any_goals (first | go_big_quiet_step ((first | (go_at_call 8; (with_reducible apply quiet_call); with_reducible exact known10_c _) | (go_at_call 13; (with_reducible apply quiet_call_same); with_reducible exact pick_c _ _ (by omega) (by omega) (by omega) (by omega) _))) | quiet_step ((first | (go_at_call 8; (with_reducible apply quiet_call); with_reducible exact known10_c _) | (go_at_call 13; (with_reducible apply quiet_call_same); with_reducible exact pick_c _ _ (by omega) (by omega) (by omega) (by omega) _)))))); (with_reducible refine wpQuiet_nil ?_); intro r) | ((with_reducible show Code.wp _ (Code.region 23 _ true) _ _ _); (with_reducible refine wp_more_quick (id := 23) ?_ ?_ ?_); kernel_rfl; kernel_rfl; (try simp only [List.take_succ_cons, List.take_zero, List.drop_succ_cons, List.drop_zero]); (repeat (any_goals (first | go_big_quiet_step ((first | (go_at_call 8; (with_reducible apply quiet_call); with_reducible exact known10_c _) | (go_at_call 13; (with_reducible apply quiet_call_same); with_reducible exact pick_c _ _ (by omega) (by omega) (by omega) (by omega) _))) | quiet_step ((first | (go_at_call 8; (with_reducible apply quiet_call); with_reducible exact known10_c _) | (go_at_call 13; (with_reducible apply quiet_call_same); with_reducible exact pick_c _ _ (by omega) (by omega) (by omega) (by omega) _)))))); (with_reducible refine wpQuiet_nil ?_); intro r))
            go_returns
            exact ⟨rfl, HM2.out.trans (by repeat (first | exact More.refl _ | refine More.alloc ?_ _ | refine More.more ?_ _ | refine More.drew ?_ | refine More.drewN ?_ _))⟩
end Go.Proofs.YthhipepdkpoomaaDoor

