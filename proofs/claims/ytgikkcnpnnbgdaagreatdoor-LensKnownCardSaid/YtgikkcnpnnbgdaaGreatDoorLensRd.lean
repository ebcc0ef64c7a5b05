/-
  A lens's reader in memory: words, numbers, what stands behind a face's word.
-/
import Derived.Test.YtgikkcnpnnbgdaaGreatDoorLensTake
import Derived.Test.YtgikkcnpnnbgdaaGreatDoorGlass
import Derived.Test.YtgikkcnpnnbgdaaGreatDoorDec2
import Derived.Test.YtgikkcnpnnbgdaaGreatDoorFace
namespace Go.Proofs.YtgikkcnpnnbgdaaGreatDoor
set_option linter.unusedVariables false
open Go.ChangeShapes Go.WideShapes Go.ChangeAt Go.RowKit

theorem dec_same (a b : Dec) : decLess a b = lessD a b := rfl
theorem has_same (t : List UInt8) (l : List Gl) : hasName t l = decide (t ∈ l.map Gl.name) := by
  rw [Bool.eq_iff_iff]
  simp [hasName]
theorem readP_fine (l : List UInt8) : decRight (readP l).1 = true := readP_right l

set_option maxHeartbeats 4000000 in
theorem word_m (ws : List (List UInt8)) (u : Value) (X : World) (v : Value) (σ : RdS) {W : World} {W' W1 : Value → World} {R : Rest} (hm : RdMoved X v σ (wordS ws σ).2 W W' R) (hm1 : RdMoved X v σ (takeS 1 σ).2 W W1 R)
    (hu : ∀ v', Strs (W1 v') u ws) (hl : ws.length ≤ 1000000) (hf : FineS σ) (hv : GRow tk3 3 X v σ.ts) :
    Calls Tryz.prog 43 #[.pointer (some ⟨X.heap.size, 0, none⟩), u] W fun en w' => en = .returned (tokV (wordS ws σ).1) ∧ ∃ v', More (W' v') w' ∧ GRow tk3 3 X v' (wordS ws σ).2.ts := by
  obtain ⟨rfl, hW'⟩ := hm.form
  clear hm
  have HW := Lib.hid hW'
  have HU := Lib.hid hu
  obtain ⟨-, hW1⟩ := hm1.form
  clear hm1 hW' hu
  obtain ⟨⟨t, τ⟩, ht⟩ : ∃ x, takeS 1 σ = x := ⟨_, rfl⟩
  have HT := Lib.hid ht
  have H1 := Lib.hid hW1
  clear ht hW1
  go_enter Tryz.func43, Tryz.ntmps43
  go_wp2_with fail
  go_at_call 44
  refine Calls.mono (take_m 1 X v σ (by intro v'; (repeat (first | exact Moved.self | apply Moved.alloc | apply Moved.more | apply Moved.drew))) hf hv) ?_
  rintro en w' ⟨rfl, v1, ⟨r, rfl⟩, h1⟩
  rw [HT.out] at h1 ⊢
  dsimp only at h1 ⊢
  have hs : Strs (more (X.alloc (rdO v1 τ)) R) u ws := by
    have := HU.out v1
    rw [H1.out, HT.out] at this
    exact this
  obtain ⟨kd, tx, L, C⟩ := t
  have HV := Lib.hid h1
  clear h1 HU H1
  by_cases hw : tx ∈ ws
  · have e1 : wordS ws σ = (⟨kd, tx, L, C⟩, τ) := by unfold wordS; rw [HT.out]; dsimp only; rw [if_pos hw]
    have hq : decide (tx ∈ ws) = true := decide_eq_true hw
    have HE := Lib.hid e1
    clear e1 hw HT
    go_wp2_with (first | (go_at_call 65; (refine Calls.mono (contains_c u ws tx _ (by (repeat (first | assumption | with_reducible apply GRow.more | with_reducible apply GRow.alloc | with_reducible apply GRow.drew | with_reducible apply GRow.drewN))) hl) ?_); rintro e w' ⟨rfl, rfl⟩))
    go_returns
    rw [HE.out]
    refine ⟨rfl, v1, ?_, HV.out⟩
    rw [HW.out, HE.out]
    exact (by repeat (first | exact More.refl _ | refine More.alloc ?_ _ | refine More.more ?_ _ | refine More.drew ?_ | refine More.drewN ?_ _))
  · have e1 : wordS ws σ = (⟨kd, tx, L, C⟩, failS 2 L C τ) := by unfold wordS; rw [HT.out]; dsimp only; rw [if_neg hw]
    have hq : decide (tx ∈ ws) = false := decide_eq_false hw
    have HE := Lib.hid e1
    clear e1 hw HT
    go_wp2_with (first | (go_at_call 65; (refine Calls.mono (contains_c u ws tx _ (by (repeat (first | assumption | with_reducible apply GRow.more | with_reducible apply GRow.alloc | with_reducible apply GRow.drew | with_reducible apply GRow.drewN))) hl) ?_); rintro e w' ⟨rfl, rfl⟩) | (go_at_call 49; (refine Calls.mono (fail_m 2 L C X v1 τ (by (repeat (first | exact Moved.self | apply Moved.alloc | apply Moved.more | apply Moved.drew)))) ?_); rintro e w' ⟨rfl, rfl⟩))
    go_returns
    rw [HE.out]
    refine ⟨rfl, v1, ?_, (show GRow tk3 3 X v1 (failS 2 L C τ).ts by rw [ts_fail]; exact HV.out)⟩
    rw [HW.out, HE.out]
    exact (by repeat (first | exact More.refl _ | refine More.alloc ?_ _ | refine More.more ?_ _ | refine More.drew ?_ | refine More.drewN ?_ _))

set_option maxHeartbeats 4000000 in
theorem number_m (X : World) (v : Value) (σ : RdS) {W : World} {W' : Value → World} {R : Rest} (hm : RdMoved X v σ (numS σ).2.2 W W' R) (hf : FineS σ) (hv : GRow tk3 3 X v σ.ts) :
    Calls Tryz.prog 66 #[.pointer (some ⟨X.heap.size, 0, none⟩)] W fun en w' => en = .returned (.tuple #[decV (numS σ).1, .complex .f64 (nw (numS σ).2.1.line) (nw (numS σ).2.1.col)]) ∧ ∃ v', More (W' v') w' ∧ GRow tk3 3 X v' (numS σ).2.2.ts := by
  obtain ⟨rfl, hW'⟩ := hm.form
  clear hm
  have HW := Lib.hid hW'
  clear hW'
  have hlen := num_len (k := 2) hf
  obtain ⟨⟨⟨kd, tx, L, C⟩, τ⟩, ht⟩ : ∃ x, takeS 2 σ = x := ⟨_, rfl⟩
  rw [ht] at hlen
  dsimp only at hlen
  obtain ⟨⟨c, s⟩, hd⟩ : ∃ d, (readP tx).1 = d := ⟨_, rfl⟩
  obtain ⟨p, hp⟩ : ∃ p, (readP tx).2 = p := ⟨_, rfl⟩
  have e1 : numS σ = (⟨c, s⟩, ⟨kd, tx, L, C⟩, τ) := by unfold numS; rw [ht]; dsimp only; rw [hd]
  have HE := Lib.hid e1
  have HT := Lib.hid ht
  clear ht e1
  go_enter Tryz.func66, Tryz.ntmps66
  go_wp2_with (first | (go_at_call 40; (with_reducible refine (read_c _ (by (try simp only [size_bs]); omega) _).mono ?_); rintro e w' ⟨rfl, r, rfl⟩) | ((with_reducible show Code.wp _ (Code.region 3 _ true) _ _ _); (with_reducible refine wp_more_tailq_m (id := 3) 3 ?_ ?_ ?_); kernel_rfl; kernel_rfl; (try simp only [List.take_succ_cons, List.take_zero, List.drop_succ_cons, List.drop_zero]); (repeat (any_goals (first | go_big_quiet_step ((first | (go_at_call 40; (with_reducible apply quiet_call); with_reducible exact read_c _ (by (try simp only [size_bs]); omega) _))) | quiet_step ((first | (go_at_call 40; (with_reducible apply quiet_call); with_reducible exact read_c _ (by (try simp only [size_bs]); omega) _)))))); (with_reducible refine wpQuiet_nil ?_); intro r) | ((with_reducible show Code.wp _ (Code.region 3 _ true) _ _ _); (with_reducible refine wp_more_tailq (id := 3) 3 ?_ ?_ ?_); kernel_rfl; kernel_rfl; (try simp only [List.take_succ_cons, List.take_zero, List.drop_succ_cons, List.drop_zero]); (repeat (any_goals (first | go_big_quiet_step ((first | (go_at_call 40; (with_reducible apply quiet_call); with_reducible exact read_c _ (by (try simp only [size_bs]); omega) _))) | quiet_step ((first | (go_at_call 40; (with_reducible apply quiet_call); with_reducible exact read_c _ (by (try simp only [size_bs]); omega) _)))))); (with_reducible refine wpQuiet_nil ?_); intro r))
  go_at_call 44
  refine Calls.mono (take_m 2 X v σ (by intro v'; (repeat (first | exact Moved.self | apply Moved.alloc | apply Moved.more | apply Moved.drew))) hf hv) ?_
  rintro en w' ⟨rfl, v1, ⟨r, rfl⟩, h1⟩
  rw [HT.out] at h1 ⊢
  dsimp only at h1 ⊢
  have HV := Lib.hid h1
  clear h1
  go_wp2_with (first | (go_at_call 40; (with_reducible refine (read_c _ (by (try simp only [size_bs]); omega) _).mono ?_); rintro e w' ⟨rfl, r, rfl⟩))
  go_region
  all_goals go_wp2_with fail
  all_goals go_returns
  rw [HE.out]
  refine ⟨rfl, v1, ?_, HV.out⟩
  rw [HW.out, HE.out]
  exact (by repeat (first | exact More.refl _ | refine More.alloc ?_ _ | refine More.more ?_ _ | refine More.drew ?_ | refine More.drewN ?_ _))

end Go.Proofs.YtgikkcnpnnbgdaaGreatDoor

