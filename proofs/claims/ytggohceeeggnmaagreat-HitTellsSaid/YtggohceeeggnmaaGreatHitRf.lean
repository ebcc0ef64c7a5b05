/-
  Where a ray meets a face: the plain saying.
-/
import Derived.Test.YtggohceeeggnmaaGreatHitSol
import Derived.Test.YtggohceeeggnmaaGreatHitOf
import Derived.Test.YtggohceeeggnmaaGreatQuad
namespace Go.Proofs.YtggohceeeggnmaaGreat
set_option linter.unusedVariables false
open Go.ChangeShapes Go.WideShapes Go.ChangeAt Go.RowKit

set_option maxHeartbeats 4000000 in
theorem nov_c  (W : World) :
    Calls Tryz.prog 47 #[] W fun e w' => e = .returned (plV ⟨⟨0, 0, true⟩, ⟨0, 0, true⟩, ⟨0, 0, true⟩⟩) ∧ More W w' := by
  have nn : ivNone = ⟨0, 0, true⟩ := rfl
  go_enter Tryz.func47, Tryz.ntmps47
  go_wp2_with (first | (go_at_call 46; (with_reducible refine (fnone_c _).mono ?_); rintro e w' ⟨rfl, r, rfl⟩) | (go_at_call 46; (with_reducible refine (none14_c _).mono ?_); rintro e w' ⟨rfl, r, rfl⟩))
  go_returns
  exact ⟨rfl, (by repeat (first | exact More.refl _ | refine More.alloc ?_ _ | refine More.more ?_ _ | refine More.drew ?_ | refine More.drewN ?_ _))⟩

theorem end_parts {r : Wy} {T : Iv} {I : Int} {e : Iv} {EP : Pl} {ie : Int} (hE : hitEnd r T I = (e, EP, ie)) :
    (¬ I = 1 → e = ivNone ∧ EP = nonePl ∧ ie = I) ∧ (I = 1 → plRight (plAlong r T) = true → e = T ∧ EP = plAlong r T ∧ ie = 1) ∧ (I = 1 → plRight (plAlong r T) = false → e = ivNone ∧ EP = nonePl ∧ ie = 0) := by
  refine ⟨fun h => ?_, fun h k => ?_, fun h k => ?_⟩
  · rw [hitEnd_no h] at hE
    injection hE with q1 q2
    injection q2 with q3 q4
    exact ⟨q1.symm, q3.symm, q4.symm⟩
  · rw [h, hitEnd_yes k] at hE
    injection hE with q1 q2
    injection q2 with q3 q4
    exact ⟨q1.symm, q3.symm, q4.symm⟩
  · rw [h, hitEnd_un k] at hE
    injection hE with q1 q2
    injection q2 with q3 q4
    exact ⟨q1.symm, q3.symm, q4.symm⟩

set_option maxHeartbeats 16000000 in
set_option maxRecDepth 100000 in
theorem rhit_c (s : Sf) (ray : Wy) (W : World) :
    Calls Tryz.prog 10 #[sfV s, wyV ray] W fun e w' => e = .returned (.tuple #[ivV (hitP s ray).1, plV (hitP s ray).2.1, .int .i64 (hitP s ray).2.2]) ∧ More W w' := by
  obtain ⟨sa, b, sc, sk, s4, s6, sp, so, sr⟩ := s
  obtain ⟨⟨z1, z2, z3⟩, hz⟩ : ∃ d, ivSub ray.o.z sp = d := ⟨_, rfl⟩
  have hR : hitR ⟨sa, b, sc, sk, s4, s6, sp, so, sr⟩ ray = ⟨⟨ray.o.x, ray.o.y, ⟨z1, z2, z3⟩⟩, ray.d⟩ := by unfold hitR; rw [hz]
  unfold hitP
  rw [hR]
  have hcs := hitS_cases ⟨sa, b, sc, sk, s4, s6, sp, so, sr⟩ ⟨⟨ray.o.x, ray.o.y, ⟨z1, z2, z3⟩⟩, ray.d⟩
  obtain ⟨⟨⟨T1, T2, T3⟩, I⟩, hS⟩ : ∃ d, hitS ⟨sa, b, sc, sk, s4, s6, sp, so, sr⟩ ⟨⟨ray.o.x, ray.o.y, ⟨z1, z2, z3⟩⟩, ray.d⟩ = d := ⟨_, rfl⟩
  rw [hS] at hcs ⊢
  dsimp only at hcs ⊢
  obtain ⟨⟨⟨e1, e2, e3⟩, EP, ie⟩, hE⟩ : ∃ d, hitEnd ⟨⟨ray.o.x, ray.o.y, ⟨z1, z2, z3⟩⟩, ray.d⟩ ⟨T1, T2, T3⟩ I = d := ⟨_, rfl⟩
  rw [hE]
  dsimp only
  have nn : ivNone = ⟨0, 0, true⟩ := rfl
  have hnear := near_cases (hitA ⟨sa, b, sc, sk, s4, s6, sp, so, sr⟩ ⟨⟨ray.o.x, ray.o.y, ⟨z1, z2, z3⟩⟩, ray.d⟩) (hitB ⟨sa, b, sc, sk, s4, s6, sp, so, sr⟩ ⟨⟨ray.o.x, ray.o.y, ⟨z1, z2, z3⟩⟩, ray.d⟩) (hitC ⟨sa, b, sc, sk, s4, s6, sp, so, sr⟩ ⟨⟨ray.o.x, ray.o.y, ⟨z1, z2, z3⟩⟩, ray.d⟩)
  change (hitI0 ⟨sa, b, sc, sk, s4, s6, sp, so, sr⟩ ⟨⟨ray.o.x, ray.o.y, ⟨z1, z2, z3⟩⟩, ray.d⟩ = 1 ∧ ivRight (hitT0 ⟨sa, b, sc, sk, s4, s6, sp, so, sr⟩ ⟨⟨ray.o.x, ray.o.y, ⟨z1, z2, z3⟩⟩, ray.d⟩) = true) ∨ (hitI0 ⟨sa, b, sc, sk, s4, s6, sp, so, sr⟩ ⟨⟨ray.o.x, ray.o.y, ⟨z1, z2, z3⟩⟩, ray.d⟩ = 2 ∧ hitT0 ⟨sa, b, sc, sk, s4, s6, sp, so, sr⟩ ⟨⟨ray.o.x, ray.o.y, ⟨z1, z2, z3⟩⟩, ray.d⟩ = ivNone) ∨ (hitI0 ⟨sa, b, sc, sk, s4, s6, sp, so, sr⟩ ⟨⟨ray.o.x, ray.o.y, ⟨z1, z2, z3⟩⟩, ray.d⟩ = 0 ∧ hitT0 ⟨sa, b, sc, sk, s4, s6, sp, so, sr⟩ ⟨⟨ray.o.x, ray.o.y, ⟨z1, z2, z3⟩⟩, ray.d⟩ = ivNone) at hnear
  obtain ⟨⟨t1, t2, t3⟩, hT⟩ : ∃ d, hitT0 ⟨sa, b, sc, sk, s4, s6, sp, so, sr⟩ ⟨⟨ray.o.x, ray.o.y, ⟨z1, z2, z3⟩⟩, ray.d⟩ = d := ⟨_, rfl⟩
  obtain ⟨i, hI⟩ : ∃ d, hitI0 ⟨sa, b, sc, sk, s4, s6, sp, so, sr⟩ ⟨⟨ray.o.x, ray.o.y, ⟨z1, z2, z3⟩⟩, ray.d⟩ = d := ⟨_, rfl⟩
  have hflat : b = false ∨ ¬ i = 1 → T1 = t1 ∧ T2 = t2 ∧ T3 = t3 ∧ I = i := by
    intro h
    have e := hS
    rcases h with h | h
    · rw [hitS_flat h, hT, hI] at e
      injection e with h1 h2
      injection h1 with h3 h4 h5
      exact ⟨h3.symm, h4.symm, h5.symm, h2.symm⟩
    · rw [hitS_off (by rw [hI]; exact h), hT, hI] at e
      injection e with h1 h2
      injection h1 with h3 h4 h5
      exact ⟨h3.symm, h4.symm, h5.symm, h2.symm⟩
  have hbent : b = true → i = 1 → hitN (hitF ⟨sa, b, sc, sk, s4, s6, sp, so, sr⟩ ⟨⟨ray.o.x, ray.o.y, ⟨z1, z2, z3⟩⟩, ray.d⟩) ⟨t1, t2, t3⟩ = (⟨T1, T2, T3⟩, I) := by
    intro h k
    have e := hS
    rw [hitS_bent h (by rw [hI]; exact k), hT] at e
    exact e
  rw [hT, hI] at hnear
  obtain ⟨⟨A1, A2, A3⟩, hA⟩ : ∃ d, hitA ⟨sa, b, sc, sk, s4, s6, sp, so, sr⟩ ⟨⟨ray.o.x, ray.o.y, ⟨z1, z2, z3⟩⟩, ray.d⟩ = d := ⟨_, rfl⟩
  obtain ⟨⟨B1, B2, B3⟩, hB⟩ : ∃ d, hitB ⟨sa, b, sc, sk, s4, s6, sp, so, sr⟩ ⟨⟨ray.o.x, ray.o.y, ⟨z1, z2, z3⟩⟩, ray.d⟩ = d := ⟨_, rfl⟩
  obtain ⟨⟨C1, C2, C3⟩, hC⟩ : ∃ d, hitC ⟨sa, b, sc, sk, s4, s6, sp, so, sr⟩ ⟨⟨ray.o.x, ray.o.y, ⟨z1, z2, z3⟩⟩, ray.d⟩ = d := ⟨_, rfl⟩
  have hq : qNear ⟨A1, A2, A3⟩ ⟨B1, B2, B3⟩ ⟨C1, C2, C3⟩ = ⟨t1, t2, t3⟩ := by rw [← hA, ← hB, ← hC]; exact hT
  have hqi : qIs ⟨A1, A2, A3⟩ ⟨B1, B2, B3⟩ ⟨C1, C2, C3⟩ = i := by rw [← hA, ← hB, ← hC]; exact hI
  have hep := end_parts hE
  unfold hitA hitV at hA
  unfold hitB hitV at hB
  unfold hitC hitV at hC
  dsimp only at hA hB hC
  have HF := Lib.hid hflat
  have HB := Lib.hid hbent
  have HEP := Lib.hid hep
  have HC := Lib.hid hcs
  have HNE := Lib.hid hnear
  clear hflat hbent hE hep hcs hS hR hT hI hnear
  go_enter Tryz.func10, Tryz.ntmps10
  go_upto_region 7 with (first | (first | (go_at_call 38; (with_reducible refine (rsub_c _ _ _).mono ?_); rintro e w' ⟨rfl, r, rfl⟩) | (go_at_call 38; (with_reducible refine (rsub_c _ ⟨_, _, _⟩ _).mono ?_); rintro e w' ⟨rfl, r, rfl⟩) | (go_at_call 38; (with_reducible refine (rsub_c ⟨_, _, _⟩ _ _).mono ?_); rintro e w' ⟨rfl, r, rfl⟩) | (go_at_call 38; (with_reducible refine (rsub_c ⟨_, _, _⟩ ⟨_, _, _⟩ _).mono ?_); rintro e w' ⟨rfl, r, rfl⟩) | (go_at_call 39; (with_reducible refine (rmuliv_c _ _ _).mono ?_); rintro e w' ⟨rfl, r, rfl⟩) | (go_at_call 39; (with_reducible refine (rmuliv_c _ ⟨_, _, _⟩ _).mono ?_); rintro e w' ⟨rfl, r, rfl⟩) | (go_at_call 39; (with_reducible refine (rmuliv_c ⟨_, _, _⟩ _ _).mono ?_); rintro e w' ⟨rfl, r, rfl⟩) | (go_at_call 39; (with_reducible refine (rmuliv_c ⟨_, _, _⟩ ⟨_, _, _⟩ _).mono ?_); rintro e w' ⟨rfl, r, rfl⟩) | (go_at_call 40; (with_reducible refine (radd_c _ _ _).mono ?_); rintro e w' ⟨rfl, r, rfl⟩) | (go_at_call 40; (with_reducible refine (radd_c _ ⟨_, _, _⟩ _).mono ?_); rintro e w' ⟨rfl, r, rfl⟩) | (go_at_call 40; (with_reducible refine (radd_c ⟨_, _, _⟩ _ _).mono ?_); rintro e w' ⟨rfl, r, rfl⟩) | (go_at_call 40; (with_reducible refine (radd_c ⟨_, _, _⟩ ⟨_, _, _⟩ _).mono ?_); rintro e w' ⟨rfl, r, rfl⟩) | (go_at_call 41; (with_reducible refine (rsqr_c _ _).mono ?_); rintro e w' ⟨rfl, r, rfl⟩) | (go_at_call 41; (with_reducible refine (rsqr_c ⟨_, _, _⟩ _).mono ?_); rintro e w' ⟨rfl, r, rfl⟩) | (go_at_call 42; (with_reducible refine (rtimes_c _ _ _).mono ?_); rintro e w' ⟨rfl, r, rfl⟩) | (go_at_call 42; (with_reducible refine (rtimes_c ⟨_, _, _⟩ _ _).mono ?_); rintro e w' ⟨rfl, r, rfl⟩) | ((with_reducible show Code.wp _ (Code.region 4 _ true) _ _ _); (with_reducible apply wp_more_heap_m (id := 4) 18 17 9); kernel_rfl; kernel_rfl; rfl; decide; rfl; (intro _ _; go_simp; rfl); intro x; (try simp only [List.append_eq, List.cons_append, List.nil_append]); (simp only [List.take_succ_cons, List.take_zero, List.drop_succ_cons, List.drop_zero, skipAt, Nat.reduceAdd, Nat.reduceEqDiff, reduceIte, Nat.zero_add]); (repeat (any_goals (first | go_big_quiet_step ((first | (go_at_call 44; (with_reducible apply quiet_up); with_reducible exact rsolveg_c ⟨⟨sa, true, sc, sk, s4, s6, sp, so, sr⟩, ⟨⟨ray.o.x, ray.o.y, ⟨z1, z2, z3⟩⟩, ray.d⟩⟩ (ivOf (t1 - 65536) (t2 + 65536)) 20 _) | (go_at_call 45; (with_reducible apply quiet_up); with_reducible exact rof_c (t1 - 65536) (t2 + 65536) _) | (go_at_call 39; (with_reducible apply quiet_up); with_reducible exact rmuliv_c _ _ _) | (go_at_call 39; (with_reducible apply quiet_up); with_reducible exact rmuliv_c _ ⟨_, _, _⟩ _) | (go_at_call 39; (with_reducible apply quiet_up); with_reducible exact rmuliv_c ⟨_, _, _⟩ _ _) | (go_at_call 39; (with_reducible apply quiet_up); with_reducible exact rmuliv_c ⟨_, _, _⟩ ⟨_, _, _⟩ _) | (go_at_call 40; (with_reducible apply quiet_up); with_reducible exact radd_c _ _ _) | (go_at_call 40; (with_reducible apply quiet_up); with_reducible exact radd_c _ ⟨_, _, _⟩ _) | (go_at_call 40; (with_reducible apply quiet_up); with_reducible exact radd_c ⟨_, _, _⟩ _ _) | (go_at_call 40; (with_reducible apply quiet_up); with_reducible exact radd_c ⟨_, _, _⟩ ⟨_, _, _⟩ _) | (go_at_call 41; (with_reducible apply quiet_up); with_reducible exact rsqr_c _ _) | (go_at_call 41; (with_reducible apply quiet_up); with_reducible exact rsqr_c ⟨_, _, _⟩ _))) | quiet_step ((first | (go_at_call 44; (with_reducible apply quiet_up); with_reducible exact rsolveg_c ⟨⟨sa, true, sc, sk, s4, s6, sp, so, sr⟩, ⟨⟨ray.o.x, ray.o.y, ⟨z1, z2, z3⟩⟩, ray.d⟩⟩ (ivOf (t1 - 65536) (t2 + 65536)) 20 _) | (go_at_call 45; (with_reducible apply quiet_up); with_reducible exact rof_c (t1 - 65536) (t2 + 65536) _) | (go_at_call 39; (with_reducible apply quiet_up); with_reducible exact rmuliv_c _ _ _) | (go_at_call 39; (with_reducible apply quiet_up); with_reducible exact rmuliv_c _ ⟨_, _, _⟩ _) | (go_at_call 39; (with_reducible apply quiet_up); with_reducible exact rmuliv_c ⟨_, _, _⟩ _ _) | (go_at_call 39; (with_reducible apply quiet_up); with_reducible exact rmuliv_c ⟨_, _, _⟩ ⟨_, _, _⟩ _) | (go_at_call 40; (with_reducible apply quiet_up); with_reducible exact radd_c _ _ _) | (go_at_call 40; (with_reducible apply quiet_up); with_reducible exact radd_c _ ⟨_, _, _⟩ _) | (go_at_call 40; (with_reducible apply quiet_up); with_reducible exact radd_c ⟨_, _, _⟩ _ _) | (go_at_call 40; (with_reducible apply quiet_up); with_reducible exact radd_c ⟨_, _, _⟩ ⟨_, _, _⟩ _) | (go_at_call 41; (with_reducible apply quiet_up); with_reducible exact rsqr_c _ _) | (go_at_call 41; (with_reducible apply quiet_up); with_reducible exact rsqr_c ⟨_, _, _⟩ _)))))); (with_reducible refine wpQuiet_nil ?_); intro r1 r2) | ((with_reducible show Code.wp _ (Code.region 4 _ true) _ _ _); (with_reducible apply wp_more_heap (id := 4) 18 17 9); kernel_rfl; kernel_rfl; rfl; decide; rfl; (intro _ _; go_simp; rfl); intro x; (try simp only [List.append_eq, List.cons_append, List.nil_append]); (simp only [List.take_succ_cons, List.take_zero, List.drop_succ_cons, List.drop_zero, skipAt, Nat.reduceAdd, Nat.reduceEqDiff, reduceIte, Nat.zero_add]); (repeat (any_goals (first | go_big_quiet_step ((first | (go_at_call 44; (with_reducible apply quiet_up); with_reducible exact rsolveg_c ⟨⟨sa, true, sc, sk, s4, s6, sp, so, sr⟩, ⟨⟨ray.o.x, ray.o.y, ⟨z1, z2, z3⟩⟩, ray.d⟩⟩ (ivOf (t1 - 65536) (t2 + 65536)) 20 _) | (go_at_call 45; (with_reducible apply quiet_up); with_reducible exact rof_c (t1 - 65536) (t2 + 65536) _) | (go_at_call 39; (with_reducible apply quiet_up); with_reducible exact rmuliv_c _ _ _) | (go_at_call 39; (with_reducible apply quiet_up); with_reducible exact rmuliv_c _ ⟨_, _, _⟩ _) | (go_at_call 39; (with_reducible apply quiet_up); with_reducible exact rmuliv_c ⟨_, _, _⟩ _ _) | (go_at_call 39; (with_reducible apply quiet_up); with_reducible exact rmuliv_c ⟨_, _, _⟩ ⟨_, _, _⟩ _) | (go_at_call 40; (with_reducible apply quiet_up); with_reducible exact radd_c _ _ _) | (go_at_call 40; (with_reducible apply quiet_up); with_reducible exact radd_c _ ⟨_, _, _⟩ _) | (go_at_call 40; (with_reducible apply quiet_up); with_reducible exact radd_c ⟨_, _, _⟩ _ _) | (go_at_call 40; (with_reducible apply quiet_up); with_reducible exact radd_c ⟨_, _, _⟩ ⟨_, _, _⟩ _) | (go_at_call 41; (with_reducible apply quiet_up); with_reducible exact rsqr_c _ _) | (go_at_call 41; (with_reducible apply quiet_up); with_reducible exact rsqr_c ⟨_, _, _⟩ _))) | quiet_step ((first | (go_at_call 44; (with_reducible apply quiet_up); with_reducible exact rsolveg_c ⟨⟨sa, true, sc, sk, s4, s6, sp, so, sr⟩, ⟨⟨ray.o.x, ray.o.y, ⟨z1, z2, z3⟩⟩, ray.d⟩⟩ (ivOf (t1 - 65536) (t2 + 65536)) 20 _) | (go_at_call 45; (with_reducible apply quiet_up); with_reducible exact rof_c (t1 - 65536) (t2 + 65536) _) | (go_at_call 39; (with_reducible apply quiet_up); with_reducible exact rmuliv_c _ _ _) | (go_at_call 39; (with_reducible apply quiet_up); with_reducible exact rmuliv_c _ ⟨_, _, _⟩ _) | (go_at_call 39; (with_reducible apply quiet_up); with_reducible exact rmuliv_c ⟨_, _, _⟩ _ _) | (go_at_call 39; (with_reducible apply quiet_up); with_reducible exact rmuliv_c ⟨_, _, _⟩ ⟨_, _, _⟩ _) | (go_at_call 40; (with_reducible apply quiet_up); with_reducible exact radd_c _ _ _) | (go_at_call 40; (with_reducible apply quiet_up); with_reducible exact radd_c _ ⟨_, _, _⟩ _) | (go_at_call 40; (with_reducible apply quiet_up); with_reducible exact radd_c ⟨_, _, _⟩ _ _) | (go_at_call 40; (with_reducible apply quiet_up); with_reducible exact radd_c ⟨_, _, _⟩ ⟨_, _, _⟩ _) | (go_at_call 41; (with_reducible apply quiet_up); with_reducible exact rsqr_c _ _) | (go_at_call 41; (with_reducible apply quiet_up); with_reducible exact rsqr_c ⟨_, _, _⟩ _)))))); (with_reducible refine wpQuiet_nil ?_); intro r1 r2) | ((with_reducible show Code.wp _ (Code.region 5 _ true) _ _ _); (with_reducible apply wp_more_heap_m (id := 5) 27 26 10); kernel_rfl; kernel_rfl; rfl; decide; rfl; (intro _ _; go_simp; rfl); intro x; (try simp only [List.append_eq, List.cons_append, List.nil_append]); (simp only [List.take_succ_cons, List.take_zero, List.drop_succ_cons, List.drop_zero, skipAt, Nat.reduceAdd, Nat.reduceEqDiff, reduceIte, Nat.zero_add]); (repeat (any_goals (first | go_big_quiet_step ((first | (go_at_call 44; (with_reducible apply quiet_up); with_reducible exact rsolveg_c ⟨⟨sa, true, sc, sk, s4, s6, sp, so, sr⟩, ⟨⟨ray.o.x, ray.o.y, ⟨z1, z2, z3⟩⟩, ray.d⟩⟩ (ivOf (t1 - 65536) (t2 + 65536)) 20 _) | (go_at_call 45; (with_reducible apply quiet_up); with_reducible exact rof_c (t1 - 65536) (t2 + 65536) _) | (go_at_call 38; (with_reducible apply quiet_up); with_reducible exact rsub_c _ _ _) | (go_at_call 38; (with_reducible apply quiet_up); with_reducible exact rsub_c _ ⟨_, _, _⟩ _) | (go_at_call 38; (with_reducible apply quiet_up); with_reducible exact rsub_c ⟨_, _, _⟩ _ _) | (go_at_call 38; (with_reducible apply quiet_up); with_reducible exact rsub_c ⟨_, _, _⟩ ⟨_, _, _⟩ _) | (go_at_call 39; (with_reducible apply quiet_up); with_reducible exact rmuliv_c _ _ _) | (go_at_call 39; (with_reducible apply quiet_up); with_reducible exact rmuliv_c _ ⟨_, _, _⟩ _) | (go_at_call 39; (with_reducible apply quiet_up); with_reducible exact rmuliv_c ⟨_, _, _⟩ _ _) | (go_at_call 39; (with_reducible apply quiet_up); with_reducible exact rmuliv_c ⟨_, _, _⟩ ⟨_, _, _⟩ _) | (go_at_call 40; (with_reducible apply quiet_up); with_reducible exact radd_c _ _ _) | (go_at_call 40; (with_reducible apply quiet_up); with_reducible exact radd_c _ ⟨_, _, _⟩ _) | (go_at_call 40; (with_reducible apply quiet_up); with_reducible exact radd_c ⟨_, _, _⟩ _ _) | (go_at_call 40; (with_reducible apply quiet_up); with_reducible exact radd_c ⟨_, _, _⟩ ⟨_, _, _⟩ _))) | quiet_step ((first | (go_at_call 44; (with_reducible apply quiet_up); with_reducible exact rsolveg_c ⟨⟨sa, true, sc, sk, s4, s6, sp, so, sr⟩, ⟨⟨ray.o.x, ray.o.y, ⟨z1, z2, z3⟩⟩, ray.d⟩⟩ (ivOf (t1 - 65536) (t2 + 65536)) 20 _) | (go_at_call 45; (with_reducible apply quiet_up); with_reducible exact rof_c (t1 - 65536) (t2 + 65536) _) | (go_at_call 38; (with_reducible apply quiet_up); with_reducible exact rsub_c _ _ _) | (go_at_call 38; (with_reducible apply quiet_up); with_reducible exact rsub_c _ ⟨_, _, _⟩ _) | (go_at_call 38; (with_reducible apply quiet_up); with_reducible exact rsub_c ⟨_, _, _⟩ _ _) | (go_at_call 38; (with_reducible apply quiet_up); with_reducible exact rsub_c ⟨_, _, _⟩ ⟨_, _, _⟩ _) | (go_at_call 39; (with_reducible apply quiet_up); with_reducible exact rmuliv_c _ _ _) | (go_at_call 39; (with_reducible apply quiet_up); with_reducible exact rmuliv_c _ ⟨_, _, _⟩ _) | (go_at_call 39; (with_reducible apply quiet_up); with_reducible exact rmuliv_c ⟨_, _, _⟩ _ _) | (go_at_call 39; (with_reducible apply quiet_up); with_reducible exact rmuliv_c ⟨_, _, _⟩ ⟨_, _, _⟩ _) | (go_at_call 40; (with_reducible apply quiet_up); with_reducible exact radd_c _ _ _) | (go_at_call 40; (with_reducible apply quiet_up); with_reducible exact radd_c _ ⟨_, _, _⟩ _) | (go_at_call 40; (with_reducible apply quiet_up); with_reducible exact radd_c ⟨_, _, _⟩ _ _) | (go_at_call 40; (with_reducible apply quiet_up); with_reducible exact radd_c ⟨_, _, _⟩ ⟨_, _, _⟩ _)))))); (with_reducible refine wpQuiet_nil ?_); intro r1 r2) | ((with_reducible show Code.wp _ (Code.region 5 _ true) _ _ _); (with_reducible apply wp_more_heap (id := 5) 27 26 10); kernel_rfl; kernel_rfl; rfl; decide; rfl; (intro _ _; go_simp; rfl); intro x; (try simp only [List.append_eq, List.cons_append, List.nil_append]); (simp only [List.take_succ_cons, List.take_zero, List.drop_succ_cons, List.drop_zero, skipAt, Nat.reduceAdd, Nat.reduceEqDiff, reduceIte, Nat.zero_add]); (repeat (any_goals (first | go_big_quiet_step ((first | (go_at_call 44; (with_reducible apply quiet_up); with_reducible exact rsolveg_c ⟨⟨sa, true, sc, sk, s4, s6, sp, so, sr⟩, ⟨⟨ray.o.x, ray.o.y, ⟨z1, z2, z3⟩⟩, ray.d⟩⟩ (ivOf (t1 - 65536) (t2 + 65536)) 20 _) | (go_at_call 45; (with_reducible apply quiet_up); with_reducible exact rof_c (t1 - 65536) (t2 + 65536) _) | (go_at_call 38; (with_reducible apply quiet_up); with_reducible exact rsub_c _ _ _) | (go_at_call 38; (with_reducible apply quiet_up); with_reducible exact rsub_c _ ⟨_, _, _⟩ _) | (go_at_call 38; (with_reducible apply quiet_up); with_reducible exact rsub_c ⟨_, _, _⟩ _ _) | (go_at_call 38; (with_reducible apply quiet_up); with_reducible exact rsub_c ⟨_, _, _⟩ ⟨_, _, _⟩ _) | (go_at_call 39; (with_reducible apply quiet_up); with_reducible exact rmuliv_c _ _ _) | (go_at_call 39; (with_reducible apply quiet_up); with_reducible exact rmuliv_c _ ⟨_, _, _⟩ _) | (go_at_call 39; (with_reducible apply quiet_up); with_reducible exact rmuliv_c ⟨_, _, _⟩ _ _) | (go_at_call 39; (with_reducible apply quiet_up); with_reducible exact rmuliv_c ⟨_, _, _⟩ ⟨_, _, _⟩ _) | (go_at_call 40; (with_reducible apply quiet_up); with_reducible exact radd_c _ _ _) | (go_at_call 40; (with_reducible apply quiet_up); with_reducible exact radd_c _ ⟨_, _, _⟩ _) | (go_at_call 40; (with_reducible apply quiet_up); with_reducible exact radd_c ⟨_, _, _⟩ _ _) | (go_at_call 40; (with_reducible apply quiet_up); with_reducible exact radd_c ⟨_, _, _⟩ ⟨_, _, _⟩ _))) | quiet_step ((first | (go_at_call 44; (with_reducible apply quiet_up); with_reducible exact rsolveg_c ⟨⟨sa, true, sc, sk, s4, s6, sp, so, sr⟩, ⟨⟨ray.o.x, ray.o.y, ⟨z1, z2, z3⟩⟩, ray.d⟩⟩ (ivOf (t1 - 65536) (t2 + 65536)) 20 _) | (go_at_call 45; (with_reducible apply quiet_up); with_reducible exact rof_c (t1 - 65536) (t2 + 65536) _) | (go_at_call 38; (with_reducible apply quiet_up); with_reducible exact rsub_c _ _ _) | (go_at_call 38; (with_reducible apply quiet_up); with_reducible exact rsub_c _ ⟨_, _, _⟩ _) | (go_at_call 38; (with_reducible apply quiet_up); with_reducible exact rsub_c ⟨_, _, _⟩ _ _) | (go_at_call 38; (with_reducible apply quiet_up); with_reducible exact rsub_c ⟨_, _, _⟩ ⟨_, _, _⟩ _) | (go_at_call 39; (with_reducible apply quiet_up); with_reducible exact rmuliv_c _ _ _) | (go_at_call 39; (with_reducible apply quiet_up); with_reducible exact rmuliv_c _ ⟨_, _, _⟩ _) | (go_at_call 39; (with_reducible apply quiet_up); with_reducible exact rmuliv_c ⟨_, _, _⟩ _ _) | (go_at_call 39; (with_reducible apply quiet_up); with_reducible exact rmuliv_c ⟨_, _, _⟩ ⟨_, _, _⟩ _) | (go_at_call 40; (with_reducible apply quiet_up); with_reducible exact radd_c _ _ _) | (go_at_call 40; (with_reducible apply quiet_up); with_reducible exact radd_c _ ⟨_, _, _⟩ _) | (go_at_call 40; (with_reducible apply quiet_up); with_reducible exact radd_c ⟨_, _, _⟩ _ _) | (go_at_call 40; (with_reducible apply quiet_up); with_reducible exact radd_c ⟨_, _, _⟩ ⟨_, _, _⟩ _)))))); (with_reducible refine wpQuiet_nil ?_); intro r1 r2) | ((with_reducible show Code.wp _ (Code.region 6 _ true) _ _ _); (with_reducible apply wp_more_heap_m (id := 6) 22 21 11); kernel_rfl; kernel_rfl; rfl; decide; rfl; (intro _ _; go_simp; rfl); intro x; (try simp only [List.append_eq, List.cons_append, List.nil_append]); (simp only [List.take_succ_cons, List.take_zero, List.drop_succ_cons, List.drop_zero, skipAt, Nat.reduceAdd, Nat.reduceEqDiff, reduceIte, Nat.zero_add]); (repeat (any_goals (first | go_big_quiet_step ((first | (go_at_call 44; (with_reducible apply quiet_up); with_reducible exact rsolveg_c ⟨⟨sa, true, sc, sk, s4, s6, sp, so, sr⟩, ⟨⟨ray.o.x, ray.o.y, ⟨z1, z2, z3⟩⟩, ray.d⟩⟩ (ivOf (t1 - 65536) (t2 + 65536)) 20 _) | (go_at_call 45; (with_reducible apply quiet_up); with_reducible exact rof_c (t1 - 65536) (t2 + 65536) _) | (go_at_call 38; (with_reducible apply quiet_up); with_reducible exact rsub_c _ _ _) | (go_at_call 38; (with_reducible apply quiet_up); with_reducible exact rsub_c _ ⟨_, _, _⟩ _) | (go_at_call 38; (with_reducible apply quiet_up); with_reducible exact rsub_c ⟨_, _, _⟩ _ _) | (go_at_call 38; (with_reducible apply quiet_up); with_reducible exact rsub_c ⟨_, _, _⟩ ⟨_, _, _⟩ _) | (go_at_call 39; (with_reducible apply quiet_up); with_reducible exact rmuliv_c _ _ _) | (go_at_call 39; (with_reducible apply quiet_up); with_reducible exact rmuliv_c _ ⟨_, _, _⟩ _) | (go_at_call 39; (with_reducible apply quiet_up); with_reducible exact rmuliv_c ⟨_, _, _⟩ _ _) | (go_at_call 39; (with_reducible apply quiet_up); with_reducible exact rmuliv_c ⟨_, _, _⟩ ⟨_, _, _⟩ _) | (go_at_call 40; (with_reducible apply quiet_up); with_reducible exact radd_c _ _ _) | (go_at_call 40; (with_reducible apply quiet_up); with_reducible exact radd_c _ ⟨_, _, _⟩ _) | (go_at_call 40; (with_reducible apply quiet_up); with_reducible exact radd_c ⟨_, _, _⟩ _ _) | (go_at_call 40; (with_reducible apply quiet_up); with_reducible exact radd_c ⟨_, _, _⟩ ⟨_, _, _⟩ _) | (go_at_call 41; (with_reducible apply quiet_up); with_reducible exact rsqr_c _ _) | (go_at_call 41; (with_reducible apply quiet_up); with_reducible exact rsqr_c ⟨_, _, _⟩ _) | (go_at_call 42; (with_reducible apply quiet_up); with_reducible exact rtimes_c _ _ _) | (go_at_call 42; (with_reducible apply quiet_up); with_reducible exact rtimes_c ⟨_, _, _⟩ _ _))) | quiet_step ((first | (go_at_call 44; (with_reducible apply quiet_up); with_reducible exact rsolveg_c ⟨⟨sa, true, sc, sk, s4, s6, sp, so, sr⟩, ⟨⟨ray.o.x, ray.o.y, ⟨z1, z2, z3⟩⟩, ray.d⟩⟩ (ivOf (t1 - 65536) (t2 + 65536)) 20 _) | (go_at_call 45; (with_reducible apply quiet_up); with_reducible exact rof_c (t1 - 65536) (t2 + 65536) _) | (go_at_call 38; (with_reducible apply quiet_up); with_reducible exact rsub_c _ _ _) | (go_at_call 38; (with_reducible apply quiet_up); with_reducible exact rsub_c _ ⟨_, _, _⟩ _) | (go_at_call 38; (with_reducible apply quiet_up); with_reducible exact rsub_c ⟨_, _, _⟩ _ _) | (go_at_call 38; (with_reducible apply quiet_up); with_reducible exact rsub_c ⟨_, _, _⟩ ⟨_, _, _⟩ _) | (go_at_call 39; (with_reducible apply quiet_up); with_reducible exact rmuliv_c _ _ _) | (go_at_call 39; (with_reducible apply quiet_up); with_reducible exact rmuliv_c _ ⟨_, _, _⟩ _) | (go_at_call 39; (with_reducible apply quiet_up); with_reducible exact rmuliv_c ⟨_, _, _⟩ _ _) | (go_at_call 39; (with_reducible apply quiet_up); with_reducible exact rmuliv_c ⟨_, _, _⟩ ⟨_, _, _⟩ _) | (go_at_call 40; (with_reducible apply quiet_up); with_reducible exact radd_c _ _ _) | (go_at_call 40; (with_reducible apply quiet_up); with_reducible exact radd_c _ ⟨_, _, _⟩ _) | (go_at_call 40; (with_reducible apply quiet_up); with_reducible exact radd_c ⟨_, _, _⟩ _ _) | (go_at_call 40; (with_reducible apply quiet_up); with_reducible exact radd_c ⟨_, _, _⟩ ⟨_, _, _⟩ _) | (go_at_call 41; (with_reducible apply quiet_up); with_reducible exact rsqr_c _ _) | (go_at_call 41; (with_reducible apply quiet_up); with_reducible exact rsqr_c ⟨_, _, _⟩ _) | (go_at_call 42; (with_reducible apply quiet_up); with_reducible exact rtimes_c _ _ _) | (go_at_call 42; (with_reducible apply quiet_up); with_reducible exact rtimes_c ⟨_, _, _⟩ _ _)))))); (with_reducible refine wpQuiet_nil ?_); intro r1 r2) | ((with_reducible show Code.wp _ (Code.region 6 _ true) _ _ _); (with_reducible apply wp_more_heap (id := 6) 22 21 11); kernel_rfl; kernel_rfl; rfl; decide; rfl; (intro _ _; go_simp; rfl); intro x; (try simp only [List.append_eq, List.cons_append, List.nil_append]); (simp only [List.take_succ_cons, List.take_zero, List.drop_succ_cons, List.drop_zero, skipAt, Nat.reduceAdd, Nat.reduceEqDiff, reduceIte, Nat.zero_add]); (repeat (any_goals (first | go_big_quiet_step ((first | (go_at_call 44; (with_reducible apply quiet_up); with_reducible exact rsolveg_c ⟨⟨sa, true, sc, sk, s4, s6, sp, so, sr⟩, ⟨⟨ray.o.x, ray.o.y, ⟨z1, z2, z3⟩⟩, ray.d⟩⟩ (ivOf (t1 - 65536) (t2 + 65536)) 20 _) | (go_at_call 45; (with_reducible apply quiet_up); with_reducible exact rof_c (t1 - 65536) (t2 + 65536) _) | (go_at_call 38; (with_reducible apply quiet_up); with_reducible exact rsub_c _ _ _) | (go_at_call 38; (with_reducible apply quiet_up); with_reducible exact rsub_c _ ⟨_, _, _⟩ _) | (go_at_call 38; (with_reducible apply quiet_up); with_reducible exact rsub_c ⟨_, _, _⟩ _ _) | (go_at_call 38; (with_reducible apply quiet_up); with_reducible exact rsub_c ⟨_, _, _⟩ ⟨_, _, _⟩ _) | (go_at_call 39; (with_reducible apply quiet_up); with_reducible exact rmuliv_c _ _ _) | (go_at_call 39; (with_reducible apply quiet_up); with_reducible exact rmuliv_c _ ⟨_, _, _⟩ _) | (go_at_call 39; (with_reducible apply quiet_up); with_reducible exact rmuliv_c ⟨_, _, _⟩ _ _) | (go_at_call 39; (with_reducible apply quiet_up); with_reducible exact rmuliv_c ⟨_, _, _⟩ ⟨_, _, _⟩ _) | (go_at_call 40; (with_reducible apply quiet_up); with_reducible exact radd_c _ _ _) | (go_at_call 40; (with_reducible apply quiet_up); with_reducible exact radd_c _ ⟨_, _, _⟩ _) | (go_at_call 40; (with_reducible apply quiet_up); with_reducible exact radd_c ⟨_, _, _⟩ _ _) | (go_at_call 40; (with_reducible apply quiet_up); with_reducible exact radd_c ⟨_, _, _⟩ ⟨_, _, _⟩ _) | (go_at_call 41; (with_reducible apply quiet_up); with_reducible exact rsqr_c _ _) | (go_at_call 41; (with_reducible apply quiet_up); with_reducible exact rsqr_c ⟨_, _, _⟩ _) | (go_at_call 42; (with_reducible apply quiet_up); with_reducible exact rtimes_c _ _ _) | (go_at_call 42; (with_reducible apply quiet_up); with_reducible exact rtimes_c ⟨_, _, _⟩ _ _))) | quiet_step ((first | (go_at_call 44; (with_reducible apply quiet_up); with_reducible exact rsolveg_c ⟨⟨sa, true, sc, sk, s4, s6, sp, so, sr⟩, ⟨⟨ray.o.x, ray.o.y, ⟨z1, z2, z3⟩⟩, ray.d⟩⟩ (ivOf (t1 - 65536) (t2 + 65536)) 20 _) | (go_at_call 45; (with_reducible apply quiet_up); with_reducible exact rof_c (t1 - 65536) (t2 + 65536) _) | (go_at_call 38; (with_reducible apply quiet_up); with_reducible exact rsub_c _ _ _) | (go_at_call 38; (with_reducible apply quiet_up); with_reducible exact rsub_c _ ⟨_, _, _⟩ _) | (go_at_call 38; (with_reducible apply quiet_up); with_reducible exact rsub_c ⟨_, _, _⟩ _ _) | (go_at_call 38; (with_reducible apply quiet_up); with_reducible exact rsub_c ⟨_, _, _⟩ ⟨_, _, _⟩ _) | (go_at_call 39; (with_reducible apply quiet_up); with_reducible exact rmuliv_c _ _ _) | (go_at_call 39; (with_reducible apply quiet_up); with_reducible exact rmuliv_c _ ⟨_, _, _⟩ _) | (go_at_call 39; (with_reducible apply quiet_up); with_reducible exact rmuliv_c ⟨_, _, _⟩ _ _) | (go_at_call 39; (with_reducible apply quiet_up); with_reducible exact rmuliv_c ⟨_, _, _⟩ ⟨_, _, _⟩ _) | (go_at_call 40; (with_reducible apply quiet_up); with_reducible exact radd_c _ _ _) | (go_at_call 40; (with_reducible apply quiet_up); with_reducible exact radd_c _ ⟨_, _, _⟩ _) | (go_at_call 40; (with_reducible apply quiet_up); with_reducible exact radd_c ⟨_, _, _⟩ _ _) | (go_at_call 40; (with_reducible apply quiet_up); with_reducible exact radd_c ⟨_, _, _⟩ ⟨_, _, _⟩ _) | (go_at_call 41; (with_reducible apply quiet_up); with_reducible exact rsqr_c _ _) | (go_at_call 41; (with_reducible apply quiet_up); with_reducible exact rsqr_c ⟨_, _, _⟩ _) | (go_at_call 42; (with_reducible apply quiet_up); with_reducible exact rtimes_c _ _ _) | (go_at_call 42; (with_reducible apply quiet_up); with_reducible exact rtimes_c ⟨_, _, _⟩ _ _)))))); (with_reducible refine wpQuiet_nil ?_); intro r1 r2)))
  go_cut [12, 13] from 7 (fun p q wx => q = .int .i64 i ∧ ∃ u : World, More ((((W.alloc (.cells #[.bool sa, .bool b, .int .i64 sc.lo, .int .i64 sc.hi, .bool sc.no, .int .i64 sk.lo, .int .i64 sk.hi, .bool sk.no, .int .i64 s4.lo, .int .i64 s4.hi, .bool s4.no, .int .i64 s6.lo, .int .i64 s6.hi, .bool s6.no, .int .i64 sp.lo, .int .i64 sp.hi, .bool sp.no, .int .i64 so.lo, .int .i64 so.hi, .bool so.no, .int .i64 sr.lo, .int .i64 sr.hi, .bool sr.no] 43)).alloc (.cells #[.int .i64 ray.o.x.lo, .int .i64 ray.o.x.hi, .bool ray.o.x.no, .int .i64 ray.o.y.lo, .int .i64 ray.o.y.hi, .bool ray.o.y.no, .int .i64 z1, .int .i64 z2, .bool z3, .int .i64 ray.d.x.lo, .int .i64 ray.d.x.hi, .bool ray.d.x.no, .int .i64 ray.d.y.lo, .int .i64 ray.d.y.hi, .bool ray.d.y.no, .int .i64 ray.d.z.lo, .int .i64 ray.d.z.hi, .bool ray.d.z.no] 34)).alloc (.cells #[.int .i64 0, .int .i64 0, .bool false] 27)).alloc (.cells #[.int .i64 0, .int .i64 0, .bool false, .int .i64 0, .int .i64 0, .bool false, .int .i64 0, .int .i64 0, .bool false] 32)) u ∧ wx = u.alloc (.cells #[.int .i64 t1, .int .i64 t2, .bool t3] 27) ∧ p = .pointer (some ⟨u.heap.size, 0, none⟩))
  case first =>
    go_wp2_with (first | (first | (go_at_call 43; (with_reducible refine (rnear_c _ _ _ _).mono ?_); rintro e w' ⟨rfl, r, rfl⟩) | (go_at_call 43; (with_reducible refine (rnear_c ⟨_, _, _⟩ ⟨_, _, _⟩ ⟨_, _, _⟩ _).mono ?_); rintro e w' ⟨rfl, r, rfl⟩)))
    go_meet
    refine ⟨rfl, _, ?_, rfl, ?_⟩
    · exact (by repeat (first | exact More.refl _ | refine More.alloc ?_ _ | refine More.more ?_ _ | refine More.drew ?_ | refine More.drewN ?_ _))
    · simp [Nat.add_assoc]
  case rest =>
  obtain ⟨rfl, u, ⟨rx, rfl⟩, rfl, rfl⟩ := hcut
  have hsz : (more ((((W.alloc (.cells #[.bool sa, .bool b, .int .i64 sc.lo, .int .i64 sc.hi, .bool sc.no, .int .i64 sk.lo, .int .i64 sk.hi, .bool sk.no, .int .i64 s4.lo, .int .i64 s4.hi, .bool s4.no, .int .i64 s6.lo, .int .i64 s6.hi, .bool s6.no, .int .i64 sp.lo, .int .i64 sp.hi, .bool sp.no, .int .i64 so.lo, .int .i64 so.hi, .bool so.no, .int .i64 sr.lo, .int .i64 sr.hi, .bool sr.no] 43)).alloc (.cells #[.int .i64 ray.o.x.lo, .int .i64 ray.o.x.hi, .bool ray.o.x.no, .int .i64 ray.o.y.lo, .int .i64 ray.o.y.hi, .bool ray.o.y.no, .int .i64 z1, .int .i64 z2, .bool z3, .int .i64 ray.d.x.lo, .int .i64 ray.d.x.hi, .bool ray.d.x.no, .int .i64 ray.d.y.lo, .int .i64 ray.d.y.hi, .bool ray.d.y.no, .int .i64 ray.d.z.lo, .int .i64 ray.d.z.hi, .bool ray.d.z.no] 34)).alloc (.cells #[.int .i64 0, .int .i64 0, .bool false] 27)).alloc (.cells #[.int .i64 0, .int .i64 0, .bool false, .int .i64 0, .int .i64 0, .bool false, .int .i64 0, .int .i64 0, .bool false] 32)) rx).heap.size = W.heap.size + (4 + rx.len) := by simp [Nat.add_assoc]
  simp only [hsz]
  clear hz hA hB hC hq hqi hsz
  have hne := HNE.out
  have hcs : I = 1 ∨ I = 2 ∨ I = 0 := by
    rcases HC.out with h | h | h
    · exact .inl h.1
    · exact .inr (.inl h.1)
    · exact .inr (.inr h.1)
  obtain ⟨P, hP⟩ : ∃ P, plAlong ⟨⟨ray.o.x, ray.o.y, ⟨z1, z2, z3⟩⟩, ray.d⟩ ⟨T1, T2, T3⟩ = P := ⟨_, rfl⟩
  have hep := HEP.out
  rw [hP] at hep
  obtain ⟨hno, hye, hun⟩ := hep
  have HNO := Lib.hid hno
  have HYE := Lib.hid hye
  have HUN := Lib.hid hun
  clear hno hye hun HEP HC HNE nn
  cases b with
  | false =>
    obtain ⟨rfl, rfl, rfl, rfl⟩ := HF.out (.inl rfl)
    clear HF HB hne
    rcases hcs with rfl | rfl | rfl
    · cases hr : plRight P
      · obtain ⟨q1, rfl, rfl⟩ := HUN.out rfl hr
        injection q1 with q1 q2 q3
        subst q1 q2 q3
        go_wp2_with (first | (go_at_call 48; (with_reducible refine (rvalong_c ⟨⟨ray.o.x, ray.o.y, ⟨z1, z2, z3⟩⟩, ray.d⟩ ⟨T1, T2, T3⟩ _).mono ?_); rintro e w' ⟨rfl, r8, rfl⟩; rw [hP]) | (first | (go_at_call 46; (with_reducible refine (fnone_c _).mono ?_); rintro e w' ⟨rfl, r, rfl⟩) | (go_at_call 46; (with_reducible refine (none14_c _).mono ?_); rintro e w' ⟨rfl, r, rfl⟩) | (go_at_call 47; (with_reducible refine (nov_c _).mono ?_); rintro e w' ⟨rfl, r, rfl⟩) | (go_at_call 49; (with_reducible refine (rvright_c _ _).mono ?_); rintro e w' ⟨rfl, r, rfl⟩) | (go_at_call 49; (with_reducible refine (rvright_c ⟨_, _, _⟩ _).mono ?_); rintro e w' ⟨rfl, r, rfl⟩) | (go_at_call 49; (with_reducible refine (rvright_c ⟨⟨_, _, _⟩, ⟨_, _, _⟩, ⟨_, _, _⟩⟩ _).mono ?_); rintro e w' ⟨rfl, r, rfl⟩)))
        go_returns
        exact ⟨rfl, (by repeat (first | exact More.refl _ | refine More.alloc ?_ _ | refine More.more ?_ _ | refine More.drew ?_ | refine More.drewN ?_ _))⟩
      · obtain ⟨q1, rfl, rfl⟩ := HYE.out rfl hr
        injection q1 with q1 q2 q3
        subst q1 q2 q3
        go_upto_region 17 with (first | (go_at_call 48; (with_reducible refine (rvalong_c ⟨⟨ray.o.x, ray.o.y, ⟨z1, z2, z3⟩⟩, ray.d⟩ ⟨T1, T2, T3⟩ _).mono ?_); rintro e w' ⟨rfl, r8, rfl⟩; rw [hP]) | (go_at_call 48; (with_reducible refine (rvalong_c ⟨⟨ray.o.x, ray.o.y, ⟨z1, z2, z3⟩⟩, ray.d⟩ ⟨e1, e2, e3⟩ _).mono ?_); rintro e w' ⟨rfl, r8, rfl⟩; rw [hP]) | (first | (go_at_call 49; (with_reducible refine (rvright_c _ _).mono ?_); rintro e w' ⟨rfl, r, rfl⟩) | (go_at_call 49; (with_reducible refine (rvright_c ⟨_, _, _⟩ _).mono ?_); rintro e w' ⟨rfl, r, rfl⟩) | (go_at_call 49; (with_reducible refine (rvright_c ⟨⟨_, _, _⟩, ⟨_, _, _⟩, ⟨_, _, _⟩⟩ _).mono ?_); rintro e w' ⟨rfl, r, rfl⟩)))
        go_region
        all_goals
          go_wp2_with fail
          go_returns
          exact ⟨rfl, (by repeat (first | exact More.refl _ | refine More.alloc ?_ _ | refine More.more ?_ _ | refine More.drew ?_ | refine More.drewN ?_ _))⟩
    · obtain ⟨q1, rfl, rfl⟩ := HNO.out (by decide)
      injection q1 with q1 q2 q3
      subst q1 q2 q3
      go_wp2_with (first | (first | (go_at_call 46; (with_reducible refine (fnone_c _).mono ?_); rintro e w' ⟨rfl, r, rfl⟩) | (go_at_call 46; (with_reducible refine (none14_c _).mono ?_); rintro e w' ⟨rfl, r, rfl⟩) | (go_at_call 47; (with_reducible refine (nov_c _).mono ?_); rintro e w' ⟨rfl, r, rfl⟩)))
      go_returns
      exact ⟨rfl, (by repeat (first | exact More.refl _ | refine More.alloc ?_ _ | refine More.more ?_ _ | refine More.drew ?_ | refine More.drewN ?_ _))⟩
    · obtain ⟨q1, rfl, rfl⟩ := HNO.out (by decide)
      injection q1 with q1 q2 q3
      subst q1 q2 q3
      go_wp2_with (first | (first | (go_at_call 46; (with_reducible refine (fnone_c _).mono ?_); rintro e w' ⟨rfl, r, rfl⟩) | (go_at_call 46; (with_reducible refine (none14_c _).mono ?_); rintro e w' ⟨rfl, r, rfl⟩) | (go_at_call 47; (with_reducible refine (nov_c _).mono ?_); rintro e w' ⟨rfl, r, rfl⟩)))
      go_returns
      exact ⟨rfl, (by repeat (first | exact More.refl _ | refine More.alloc ?_ _ | refine More.more ?_ _ | refine More.drew ?_ | refine More.drewN ?_ _))⟩
  | true =>
    rcases hne with ⟨rfl, hr⟩ | ⟨rfl, -⟩ | ⟨rfl, -⟩
    · obtain ⟨-, ⟨l1, l2⟩, ⟨l3, l4⟩, l5⟩ := right_iff.1 hr
      dsimp only at l1 l2 l3 l4 l5
      have hN := HB.out rfl rfl
      clear HF HB hr hcs
      have hsc := solve_cases (hitF ⟨sa, true, sc, sk, s4, s6, sp, so, sr⟩ ⟨⟨ray.o.x, ray.o.y, ⟨z1, z2, z3⟩⟩, ray.d⟩) (ivOf (t1 - 65536) (t2 + 65536)) 20
      obtain ⟨⟨⟨n1, n2, n3⟩, ni⟩, hn⟩ : ∃ d, nSolve (hitF ⟨sa, true, sc, sk, s4, s6, sp, so, sr⟩ ⟨⟨ray.o.x, ray.o.y, ⟨z1, z2, z3⟩⟩, ray.d⟩) (ivOf (t1 - 65536) (t2 + 65536)) 20 = d := ⟨_, rfl⟩
      unfold hitN hitW at hN
      dsimp only at hN
      rw [hn] at hN hsc
      dsimp only at hN hsc
      injection hN with hN hNi
      injection hN with e1' e2' e3'
      subst e1' e2' e3'
      have e65a : IntKind.i64.wrap (t1 - 65536) = t1 - 65536 := IntWalk.i64_in _ ⟨by omega, by omega⟩
      have e65b : IntKind.i64.wrap (t2 + 65536) = t2 + 65536 := IntWalk.i64_in _ ⟨by omega, by omega⟩
      have hni : ni = 1 ∨ ni = 2 ∨ ni = 0 := by
        rcases hsc with h | h | h
        · exact .inl h.1
        · exact .inr (.inl h.1)
        · exact .inr (.inr h.1)
      have HN := Lib.hid hn
      have HNI := Lib.hid hNi
      clear hsc hn hNi
      go_upto_region 9 with fail
      (first | (with_reducible refine wp_more_apartl_m (id := 9) 14 135 [13] [] ?_ ?_ ?_ ?_ ?_ ?_ ?_ ?_ ?_ ?_) | (refine wp_more_apartl (id := 9) 14 135 [13] [] ?_ ?_ ?_ ?_ ?_ ?_ ?_ ?_ ?_ ?_))
      · intro p hp; cases hp
      · kernel_rfl
      · kernel_rfl
      · kernel_rfl
      · kernel_rfl
      · kernel_rfl
      · kernel_rfl
      · rfl
      · (intro _ _ _ _ _ h; exact h)
      simp only [List.take_succ_cons, List.take_zero, List.drop_succ_cons, List.drop_zero]
      (repeat (first | (refine loose_step rfl (fun K9 hK9 => ?_); go_simp; first | (refine hK9 _ ?_; clear hK9 K9) | (apply Exists.intro; refine ⟨fun _ => ?_, hK9 _ ?_⟩; ((first | (go_at_call 44; with_reducible exact rsolveg_c ⟨⟨sa, true, sc, sk, s4, s6, sp, so, sr⟩, ⟨⟨ray.o.x, ray.o.y, ⟨z1, z2, z3⟩⟩, ray.d⟩⟩ (ivOf (t1 - 65536) (t2 + 65536)) 20 _) | (go_at_call 45; with_reducible exact rof_c (t1 - 65536) (t2 + 65536) _) | (go_at_call 44; with_reducible exact rsolveg_c ⟨⟨sa, true, sc, sk, s4, s6, sp, so, sr⟩, ⟨⟨ray.o.x, ray.o.y, ⟨z1, z2, z3⟩⟩, ray.d⟩⟩ (ivOf (t1 - 65536) (t2 + 65536)) 20 _) | (go_at_call 45; with_reducible exact rof_c (t1 - 65536) (t2 + 65536) _) | (go_at_call 44; with_reducible exact rsolveg_c _ _ _ _) | (go_at_call 44; with_reducible exact rsolveg_c _ ⟨_, _, _⟩ _ _) | (go_at_call 44; with_reducible exact rsolveg_c ⟨_, _⟩ ⟨_, _, _⟩ _ _) | (go_at_call 44; with_reducible exact rsolve_c _ _ _ _ (by (repeat (first | assumption | with_reducible apply Row.nil | with_reducible apply Row.plus | with_reducible apply Row.more | with_reducible apply Row.drew | with_reducible apply Row.drewN | (apply row_lit1 <;> first | rfl | (simp; done) | (simp; omega)) | (apply row_num1 <;> first | rfl | (simp; done) | (simp; omega)) | (apply row_lit2 <;> first | rfl | (simp; done) | (simp; omega)) | (apply row_num2 <;> first | rfl | (simp; done) | (simp; omega)) | (apply row_lit3 <;> first | rfl | (simp; done) | (simp; omega)) | (apply row_num3 <;> first | rfl | (simp; done) | (simp; omega)) | with_reducible apply Row.alloc))) (by (first | omega | decide | (simp; done) | (simp; omega)))) | (go_at_call 44; with_reducible exact rsolve_c _ _ ⟨_, _, _⟩ _ (by (repeat (first | assumption | with_reducible apply Row.nil | with_reducible apply Row.plus | with_reducible apply Row.more | with_reducible apply Row.drew | with_reducible apply Row.drewN | (apply row_lit1 <;> first | rfl | (simp; done) | (simp; omega)) | (apply row_num1 <;> first | rfl | (simp; done) | (simp; omega)) | (apply row_lit2 <;> first | rfl | (simp; done) | (simp; omega)) | (apply row_num2 <;> first | rfl | (simp; done) | (simp; omega)) | (apply row_lit3 <;> first | rfl | (simp; done) | (simp; omega)) | (apply row_num3 <;> first | rfl | (simp; done) | (simp; omega)) | with_reducible apply Row.alloc))) (by (first | omega | decide | (simp; done) | (simp; omega)))) | (go_at_call 44; with_reducible exact rsolve_c _ ⟨_, _, _⟩ _ _ (by (repeat (first | assumption | with_reducible apply Row.nil | with_reducible apply Row.plus | with_reducible apply Row.more | with_reducible apply Row.drew | with_reducible apply Row.drewN | (apply row_lit1 <;> first | rfl | (simp; done) | (simp; omega)) | (apply row_num1 <;> first | rfl | (simp; done) | (simp; omega)) | (apply row_lit2 <;> first | rfl | (simp; done) | (simp; omega)) | (apply row_num2 <;> first | rfl | (simp; done) | (simp; omega)) | (apply row_lit3 <;> first | rfl | (simp; done) | (simp; omega)) | (apply row_num3 <;> first | rfl | (simp; done) | (simp; omega)) | with_reducible apply Row.alloc))) (by (first | omega | decide | (simp; done) | (simp; omega)))) | (go_at_call 44; with_reducible exact rsolve_c _ ⟨_, _, _⟩ ⟨_, _, _⟩ _ (by (repeat (first | assumption | with_reducible apply Row.nil | with_reducible apply Row.plus | with_reducible apply Row.more | with_reducible apply Row.drew | with_reducible apply Row.drewN | (apply row_lit1 <;> first | rfl | (simp; done) | (simp; omega)) | (apply row_num1 <;> first | rfl | (simp; done) | (simp; omega)) | (apply row_lit2 <;> first | rfl | (simp; done) | (simp; omega)) | (apply row_num2 <;> first | rfl | (simp; done) | (simp; omega)) | (apply row_lit3 <;> first | rfl | (simp; done) | (simp; omega)) | (apply row_num3 <;> first | rfl | (simp; done) | (simp; omega)) | with_reducible apply Row.alloc))) (by (first | omega | decide | (simp; done) | (simp; omega)))) | (go_at_call 45; with_reducible exact rof_c _ _ _))); clear hK9 K9))))
      intro r
      (try simp only [allFits])
      intro hfar
      clear hfar
      have hn := HN.out
      (try dsimp only)
      rw [hn]
      (try dsimp only)
      clear HN hn
      rcases hni with rfl | rfl | rfl
      · have hI := HNI.out
        rw [if_neg (by decide)] at hI
        subst hI
        clear HNI
        cases hr : plRight P
        · obtain ⟨q1, rfl, rfl⟩ := HUN.out rfl hr
          injection q1 with q1 q2 q3
          subst q1 q2 q3
          go_wp2_with (first | (go_at_call 48; (with_reducible refine (rvalong_c ⟨⟨ray.o.x, ray.o.y, ⟨z1, z2, z3⟩⟩, ray.d⟩ ⟨n1, n2, n3⟩ _).mono ?_); rintro e w' ⟨rfl, r8, rfl⟩; rw [hP]) | (first | (go_at_call 46; (with_reducible refine (fnone_c _).mono ?_); rintro e w' ⟨rfl, r, rfl⟩) | (go_at_call 46; (with_reducible refine (none14_c _).mono ?_); rintro e w' ⟨rfl, r, rfl⟩) | (go_at_call 47; (with_reducible refine (nov_c _).mono ?_); rintro e w' ⟨rfl, r, rfl⟩) | (go_at_call 49; (with_reducible refine (rvright_c _ _).mono ?_); rintro e w' ⟨rfl, r, rfl⟩) | (go_at_call 49; (with_reducible refine (rvright_c ⟨_, _, _⟩ _).mono ?_); rintro e w' ⟨rfl, r, rfl⟩) | (go_at_call 49; (with_reducible refine (rvright_c ⟨⟨_, _, _⟩, ⟨_, _, _⟩, ⟨_, _, _⟩⟩ _).mono ?_); rintro e w' ⟨rfl, r, rfl⟩)))
          go_returns
          exact ⟨rfl, (by repeat (first | exact More.refl _ | refine More.alloc ?_ _ | refine More.more ?_ _ | refine More.drew ?_ | refine More.drewN ?_ _))⟩
        · obtain ⟨q1, rfl, rfl⟩ := HYE.out rfl hr
          injection q1 with q1 q2 q3
          subst q1 q2 q3
          go_upto_region 17 with (first | (go_at_call 48; (with_reducible refine (rvalong_c ⟨⟨ray.o.x, ray.o.y, ⟨z1, z2, z3⟩⟩, ray.d⟩ ⟨n1, n2, n3⟩ _).mono ?_); rintro e w' ⟨rfl, r8, rfl⟩; rw [hP]) | (go_at_call 48; (with_reducible refine (rvalong_c ⟨⟨ray.o.x, ray.o.y, ⟨z1, z2, z3⟩⟩, ray.d⟩ ⟨e1, e2, e3⟩ _).mono ?_); rintro e w' ⟨rfl, r8, rfl⟩; rw [hP]) | (first | (go_at_call 49; (with_reducible refine (rvright_c _ _).mono ?_); rintro e w' ⟨rfl, r, rfl⟩) | (go_at_call 49; (with_reducible refine (rvright_c ⟨_, _, _⟩ _).mono ?_); rintro e w' ⟨rfl, r, rfl⟩) | (go_at_call 49; (with_reducible refine (rvright_c ⟨⟨_, _, _⟩, ⟨_, _, _⟩, ⟨_, _, _⟩⟩ _).mono ?_); rintro e w' ⟨rfl, r, rfl⟩)))
          go_region
          all_goals
            go_wp2_with fail
            go_returns
            exact ⟨rfl, (by repeat (first | exact More.refl _ | refine More.alloc ?_ _ | refine More.more ?_ _ | refine More.drew ?_ | refine More.drewN ?_ _))⟩
      · have hI := HNI.out
        rw [if_pos rfl] at hI
        subst hI
        clear HNI
        obtain ⟨q1, rfl, rfl⟩ := HNO.out (by decide)
        injection q1 with q1 q2 q3
        subst q1 q2 q3
        go_wp2_with (first | (first | (go_at_call 46; (with_reducible refine (fnone_c _).mono ?_); rintro e w' ⟨rfl, r, rfl⟩) | (go_at_call 46; (with_reducible refine (none14_c _).mono ?_); rintro e w' ⟨rfl, r, rfl⟩) | (go_at_call 47; (with_reducible refine (nov_c _).mono ?_); rintro e w' ⟨rfl, r, rfl⟩)))
        go_returns
        exact ⟨rfl, (by repeat (first | exact More.refl _ | refine More.alloc ?_ _ | refine More.more ?_ _ | refine More.drew ?_ | refine More.drewN ?_ _))⟩
      · have hI := HNI.out
        rw [if_neg (by decide)] at hI
        subst hI
        clear HNI
        obtain ⟨q1, rfl, rfl⟩ := HNO.out (by decide)
        injection q1 with q1 q2 q3
        subst q1 q2 q3
        go_wp2_with (first | (first | (go_at_call 46; (with_reducible refine (fnone_c _).mono ?_); rintro e w' ⟨rfl, r, rfl⟩) | (go_at_call 46; (with_reducible refine (none14_c _).mono ?_); rintro e w' ⟨rfl, r, rfl⟩) | (go_at_call 47; (with_reducible refine (nov_c _).mono ?_); rintro e w' ⟨rfl, r, rfl⟩)))
        go_returns
        exact ⟨rfl, (by repeat (first | exact More.refl _ | refine More.alloc ?_ _ | refine More.more ?_ _ | refine More.drew ?_ | refine More.drewN ?_ _))⟩
    · obtain ⟨rfl, rfl, rfl, rfl⟩ := HF.out (.inr (by decide))
      clear HF HB hcs
      obtain ⟨q1, rfl, rfl⟩ := HNO.out (by decide)
      injection q1 with q1 q2 q3
      subst q1 q2 q3
      go_wp2_with (first | (first | (go_at_call 46; (with_reducible refine (fnone_c _).mono ?_); rintro e w' ⟨rfl, r, rfl⟩) | (go_at_call 46; (with_reducible refine (none14_c _).mono ?_); rintro e w' ⟨rfl, r, rfl⟩) | (go_at_call 47; (with_reducible refine (nov_c _).mono ?_); rintro e w' ⟨rfl, r, rfl⟩)))
      go_returns
      exact ⟨rfl, (by repeat (first | exact More.refl _ | refine More.alloc ?_ _ | refine More.more ?_ _ | refine More.drew ?_ | refine More.drewN ?_ _))⟩
    · obtain ⟨rfl, rfl, rfl, rfl⟩ := HF.out (.inr (by decide))
      clear HF HB hcs
      obtain ⟨q1, rfl, rfl⟩ := HNO.out (by decide)
      injection q1 with q1 q2 q3
      subst q1 q2 q3
      go_wp2_with (first | (first | (go_at_call 46; (with_reducible refine (fnone_c _).mono ?_); rintro e w' ⟨rfl, r, rfl⟩) | (go_at_call 46; (with_reducible refine (none14_c _).mono ?_); rintro e w' ⟨rfl, r, rfl⟩) | (go_at_call 47; (with_reducible refine (nov_c _).mono ?_); rintro e w' ⟨rfl, r, rfl⟩)))
      go_returns
      exact ⟨rfl, (by repeat (first | exact More.refl _ | refine More.alloc ?_ _ | refine More.more ?_ _ | refine More.drew ?_ | refine More.drewN ?_ _))⟩
end Go.Proofs.YtggohceeeggnmaaGreat
