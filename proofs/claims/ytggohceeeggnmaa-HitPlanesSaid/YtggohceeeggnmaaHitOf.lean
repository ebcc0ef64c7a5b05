/-
  Where a ray meets a face: hit.Of.
-/
import Derived.Test.YtggohceeeggnmaaGm5
namespace Go.Proofs.Ytggohceeeggnmaa
set_option linter.unusedVariables false
open Go.ChangeShapes Go.WideShapes Go.ChangeAt Go.RowKit

set_option maxHeartbeats 16000000 in
set_option maxRecDepth 100000 in
theorem hitof_c (s : Sf) (ray : Wy) (W : World) :
    Calls Try.prog 30 #[sfV s, wyV ray] W fun e w' => e = .returned (.tuple #[ivV (hitP s ray).1, plV (hitP s ray).2.1, .int .i64 (hitP s ray).2.2]) ∧ More W w' := by
  obtain ⟨sa, b, sc, sk, s4, s6, sp, so, sr⟩ := s
  obtain ⟨⟨z1, z2, z3⟩, hz⟩ : ∃ d, ivSub ray.o.z sp = d := ⟨_, rfl⟩
  have hR : hitR ⟨sa, b, sc, sk, s4, s6, sp, so, sr⟩ ray = ⟨⟨ray.o.x, ray.o.y, ⟨z1, z2, z3⟩⟩, ray.d⟩ := by unfold hitR; rw [hz]
  unfold hitP
  rw [hR]
  have hcs := hitS_cases ⟨sa, b, sc, sk, s4, s6, sp, so, sr⟩ ⟨⟨ray.o.x, ray.o.y, ⟨z1, z2, z3⟩⟩, ray.d⟩
  obtain ⟨⟨⟨T1, T2, T3⟩, I⟩, hS⟩ : ∃ d, hitS ⟨sa, b, sc, sk, s4, s6, sp, so, sr⟩ ⟨⟨ray.o.x, ray.o.y, ⟨z1, z2, z3⟩⟩, ray.d⟩ = d := ⟨_, rfl⟩
  rw [hS] at hcs ⊢
  dsimp only at hcs ⊢
  obtain ⟨⟨⟨e1, e2, e3⟩, EP, ie⟩, hE⟩ : ∃ d, hitEnd ⟨⟨ray.o.x, ray.o.y, ⟨z1, z2, z3⟩⟩, ray.d⟩ ⟨T1, T2, T3⟩ I = d := ⟨_, rfl⟩
  rw [hE]
  dsimp only
  have nn : ivNone = ⟨0, 0, true⟩ := rfl
  have hnear := near_cases (hitA ⟨sa, b, sc, sk, s4, s6, sp, so, sr⟩ ⟨⟨ray.o.x, ray.o.y, ⟨z1, z2, z3⟩⟩, ray.d⟩) (hitB ⟨sa, b, sc, sk, s4, s6, sp, so, sr⟩ ⟨⟨ray.o.x, ray.o.y, ⟨z1, z2, z3⟩⟩, ray.d⟩) (hitC ⟨sa, b, sc, sk, s4, s6, sp, so, sr⟩ ⟨⟨ray.o.x, ray.o.y, ⟨z1, z2, z3⟩⟩, ray.d⟩)
  change (hitI0 ⟨sa, b, sc, sk, s4, s6, sp, so, sr⟩ ⟨⟨ray.o.x, ray.o.y, ⟨z1, z2, z3⟩⟩, ray.d⟩ = 1 ∧ ivRight (hitT0 ⟨sa, b, sc, sk, s4, s6, sp, so, sr⟩ ⟨⟨ray.o.x, ray.o.y, ⟨z1, z2, z3⟩⟩, ray.d⟩) = true) ∨ (hitI0 ⟨sa, b, sc, sk, s4, s6, sp, so, sr⟩ ⟨⟨ray.o.x, ray.o.y, ⟨z1, z2, z3⟩⟩, ray.d⟩ = 2 ∧ hitT0 ⟨sa, b, sc, sk, s4, s6, sp, so, sr⟩ ⟨⟨ray.o.x, ray.o.y, ⟨z1, z2, z3⟩⟩, ray.d⟩ = ivNone) ∨ (hitI0 ⟨sa, b, sc, sk, s4, s6, sp, so, sr⟩ ⟨⟨ray.o.x, ray.o.y, ⟨z1, z2, z3⟩⟩, ray.d⟩ = 0 ∧ hitT0 ⟨sa, b, sc, sk, s4, s6, sp, so, sr⟩ ⟨⟨ray.o.x, ray.o.y, ⟨z1, z2, z3⟩⟩, ray.d⟩ = ivNone) at hnear
  obtain ⟨⟨t1, t2, t3⟩, hT⟩ : ∃ d, hitT0 ⟨sa, b, sc, sk, s4, s6, sp, so, sr⟩ ⟨⟨ray.o.x, ray.o.y, ⟨z1, z2, z3⟩⟩, ray.d⟩ = d := ⟨_, rfl⟩
  obtain ⟨i, hI⟩ : ∃ d, hitI0 ⟨sa, b, sc, sk, s4, s6, sp, so, sr⟩ ⟨⟨ray.o.x, ray.o.y, ⟨z1, z2, z3⟩⟩, ray.d⟩ = d := ⟨_, rfl⟩
  have hflat : b = false ∨ ¬ i = 1 → T1 = t1 ∧ T2 = t2 ∧ T3 = t3 ∧ I = i := by
    intro h
    have e := hS
    rcases h with h | h
    · rw [hitS_flat h, hT, hI] at e
      injection e with h1 h2
      injection h1 with h3 h4 h5
      exact ⟨h3.symm, h4.symm, h5.symm, h2.symm⟩
    · rw [hitS_off (by rw [hI]; exact h), hT, hI] at e
      injection e with h1 h2
      injection h1 with h3 h4 h5
      exact ⟨h3.symm, h4.symm, h5.symm, h2.symm⟩
  have hbent : b = true → i = 1 → hitN (hitF ⟨sa, b, sc, sk, s4, s6, sp, so, sr⟩ ⟨⟨ray.o.x, ray.o.y, ⟨z1, z2, z3⟩⟩, ray.d⟩) ⟨t1, t2, t3⟩ = (⟨T1, T2, T3⟩, I) := by
    intro h k
    have e := hS
    rw [hitS_bent h (by rw [hI]; exact k), hT] at e
    exact e
  rw [hT, hI] at hnear
  have HF := Lib.hid hflat
  have HB := Lib.hid hbent
  have HE := Lib.hid hE
  have HC := Lib.hid hcs
  clear hflat hbent hE hcs hS hR
  go_enter Try.func30, Try.ntmps30
  go_upto_region 3 with (first | (go_at_call 65; (with_reducible refine (cone15_c ⟨sa, b, sc, sk, s4, s6, sp, so, sr⟩ ⟨⟨ray.o.x, ray.o.y, ⟨z1, z2, z3⟩⟩, ray.d⟩ _).mono ?_); rintro e w' ⟨rfl, r, rfl⟩) | (first | (go_at_call 64; (with_reducible refine (sub_c _ _ _).mono ?_); rintro e w' ⟨rfl, r, rfl⟩) | (go_at_call 64; (with_reducible refine (sub_c _ ⟨_, _, _⟩ _).mono ?_); rintro e w' ⟨rfl, r, rfl⟩) | (go_at_call 64; (with_reducible refine (sub_c ⟨_, _, _⟩ _ _).mono ?_); rintro e w' ⟨rfl, r, rfl⟩) | (go_at_call 64; (with_reducible refine (sub_c ⟨_, _, _⟩ ⟨_, _, _⟩ _).mono ?_); rintro e w' ⟨rfl, r, rfl⟩)))
  go_cut [27] from 8 (fun u wx => u = .bool (b && decide (i = 1)) ∧ More ((((W.alloc (.cells #[.bool sa, .bool b, .int .i64 sc.lo, .int .i64 sc.hi, .bool sc.no, .int .i64 sk.lo, .int .i64 sk.hi, .bool sk.no, .int .i64 s4.lo, .int .i64 s4.hi, .bool s4.no, .int .i64 s6.lo, .int .i64 s6.hi, .bool s6.no, .int .i64 sp.lo, .int .i64 sp.hi, .bool sp.no, .int .i64 so.lo, .int .i64 so.hi, .bool so.no, .int .i64 sr.lo, .int .i64 sr.hi, .bool sr.no] 25)).alloc (.cells #[.int .i64 ray.o.x.lo, .int .i64 ray.o.x.hi, .bool ray.o.x.no, .int .i64 ray.o.y.lo, .int .i64 ray.o.y.hi, .bool ray.o.y.no, .int .i64 z1, .int .i64 z2, .bool z3, .int .i64 ray.d.x.lo, .int .i64 ray.d.x.hi, .bool ray.d.x.no, .int .i64 ray.d.y.lo, .int .i64 ray.d.y.hi, .bool ray.d.y.no, .int .i64 ray.d.z.lo, .int .i64 ray.d.z.hi, .bool ray.d.z.no] 56)).alloc (.cells #[.int .i64 t1, .int .i64 t2, .bool t3] 23)).alloc (.cells #[.int .i64 0, .int .i64 0, .bool false, .int .i64 0, .int .i64 0, .bool false, .int .i64 0, .int .i64 0, .bool false] 30)) wx)
  case first =>
    cases b with
    | false =>
      go_wp2_with fail
      go_meet
      exact ⟨by simp, (by repeat (first | exact More.refl _ | refine More.alloc ?_ _ | refine More.more ?_ _ | refine More.drew ?_ | refine More.drewN ?_ _))⟩
    | true =>
      have hi : i = 1 ∨ i = 2 ∨ i = 0 := by omega
      rcases hi with rfl | rfl | rfl
      all_goals
        go_wp2_with fail
        go_meet
        exact ⟨by simp, (by repeat (first | exact More.refl _ | refine More.alloc ?_ _ | refine More.more ?_ _ | refine More.drew ?_ | refine More.drewN ?_ _))⟩
  case rest =>
    obtain ⟨rfl, r5, rfl⟩ := hcut
    clear hz
    go_upto_if 27 with fail
    go_cut [6] from 8 (fun u wx => u = .int .i64 I ∧ More ((((W.alloc (.cells #[.bool sa, .bool b, .int .i64 sc.lo, .int .i64 sc.hi, .bool sc.no, .int .i64 sk.lo, .int .i64 sk.hi, .bool sk.no, .int .i64 s4.lo, .int .i64 s4.hi, .bool s4.no, .int .i64 s6.lo, .int .i64 s6.hi, .bool s6.no, .int .i64 sp.lo, .int .i64 sp.hi, .bool sp.no, .int .i64 so.lo, .int .i64 so.hi, .bool so.no, .int .i64 sr.lo, .int .i64 sr.hi, .bool sr.no] 25)).alloc (.cells #[.int .i64 ray.o.x.lo, .int .i64 ray.o.x.hi, .bool ray.o.x.no, .int .i64 ray.o.y.lo, .int .i64 ray.o.y.hi, .bool ray.o.y.no, .int .i64 z1, .int .i64 z2, .bool z3, .int .i64 ray.d.x.lo, .int .i64 ray.d.x.hi, .bool ray.d.x.no, .int .i64 ray.d.y.lo, .int .i64 ray.d.y.hi, .bool ray.d.y.no, .int .i64 ray.d.z.lo, .int .i64 ray.d.z.hi, .bool ray.d.z.no] 56)).alloc (.cells #[.int .i64 T1, .int .i64 T2, .bool T3] 23)).alloc (.cells #[.int .i64 0, .int .i64 0, .bool false, .int .i64 0, .int .i64 0, .bool false, .int .i64 0, .int .i64 0, .bool false] 30)) wx)
    case first =>
      cases b with
      | false =>
        obtain ⟨rfl, rfl, rfl, rfl⟩ := HF.out (.inl rfl)
        rw [show (false && decide (I = 1)) = false from rfl]
        go_wp2_with fail
        go_meet
        exact ⟨rfl, (by repeat (first | exact More.refl _ | refine More.alloc ?_ _ | refine More.more ?_ _ | refine More.drew ?_ | refine More.drewN ?_ _))⟩
      | true =>
        rcases hnear with ⟨rfl, hr⟩ | ⟨rfl, -⟩ | ⟨rfl, -⟩
        · obtain ⟨-, ⟨l1, l2⟩, ⟨l3, l4⟩, l5⟩ := right_iff.1 hr
          dsimp only at l1 l2 l3 l4 l5
          have hN := HB.out rfl rfl
          rw [show (true && decide ((1 : Int) = 1)) = true from rfl]
          go_wp2_with (first | (go_at_call 66; (with_reducible refine (bent_c ⟨sa, true, sc, sk, s4, s6, sp, so, sr⟩ ⟨⟨ray.o.x, ray.o.y, ⟨z1, z2, z3⟩⟩, ray.d⟩ ⟨t1, t2, t3⟩ (by dsimp only; omega) (by dsimp only; omega) (by dsimp only; omega) _).mono ?_); rintro e w' ⟨rfl, r, rfl⟩; rw [hN]))
          go_meet
          exact ⟨rfl, (by repeat (first | exact More.refl _ | refine More.alloc ?_ _ | refine More.more ?_ _ | refine More.drew ?_ | refine More.drewN ?_ _))⟩
        · obtain ⟨rfl, rfl, rfl, rfl⟩ := HF.out (.inr (by decide))
          rw [show (true && decide ((2 : Int) = 1)) = false from rfl]
          go_wp2_with fail
          go_meet
          exact ⟨rfl, (by repeat (first | exact More.refl _ | refine More.alloc ?_ _ | refine More.more ?_ _ | refine More.drew ?_ | refine More.drewN ?_ _))⟩
        · obtain ⟨rfl, rfl, rfl, rfl⟩ := HF.out (.inr (by decide))
          rw [show (true && decide ((0 : Int) = 1)) = false from rfl]
          go_wp2_with fail
          go_meet
          exact ⟨rfl, (by repeat (first | exact More.refl _ | refine More.alloc ?_ _ | refine More.more ?_ _ | refine More.drew ?_ | refine More.drewN ?_ _))⟩
    case rest =>
      obtain ⟨rfl, r6, rfl⟩ := hcut
      have hcs := HC.out
      have hE := HE.out
      clear hnear hT hI HF HB HE HC nn
      have n0 : ivNone = ⟨0, 0, true⟩ := rfl
      have hno : ¬ I = 1 → e1 = 0 ∧ e2 = 0 ∧ e3 = true ∧ EP = nonePl ∧ ie = I := by
        intro h
        rw [hitEnd_no h] at hE
        injection hE with q1 q2
        injection q1 with q3 q4 q5
        injection q2 with q6 q7
        exact ⟨q3.symm, q4.symm, q5.symm, q6.symm, q7.symm⟩
      have hye : I = 1 → plRight (plAlong ⟨⟨ray.o.x, ray.o.y, ⟨z1, z2, z3⟩⟩, ray.d⟩ ⟨T1, T2, T3⟩) = true → e1 = T1 ∧ e2 = T2 ∧ e3 = T3 ∧ EP = plAlong ⟨⟨ray.o.x, ray.o.y, ⟨z1, z2, z3⟩⟩, ray.d⟩ ⟨T1, T2, T3⟩ ∧ ie = 1 := by
        intro h k
        rw [h, hitEnd_yes k] at hE
        injection hE with q1 q2
        injection q1 with q3 q4 q5
        injection q2 with q6 q7
        exact ⟨q3.symm, q4.symm, q5.symm, q6.symm, q7.symm⟩
      have hun : I = 1 → plRight (plAlong ⟨⟨ray.o.x, ray.o.y, ⟨z1, z2, z3⟩⟩, ray.d⟩ ⟨T1, T2, T3⟩) = false → e1 = 0 ∧ e2 = 0 ∧ e3 = true ∧ EP = nonePl ∧ ie = 0 := by
        intro h k
        rw [h, hitEnd_un k] at hE
        injection hE with q1 q2
        injection q1 with q3 q4 q5
        injection q2 with q6 q7
        exact ⟨q3.symm, q4.symm, q5.symm, q6.symm, q7.symm⟩
      obtain ⟨P, hP⟩ : ∃ P, plAlong ⟨⟨ray.o.x, ray.o.y, ⟨z1, z2, z3⟩⟩, ray.d⟩ ⟨T1, T2, T3⟩ = P := ⟨_, rfl⟩
      rw [hP] at hye hun
      clear hE
      have HNO := Lib.hid hno
      have HYE := Lib.hid hye
      have HUN := Lib.hid hun
      clear hno hye hun
      have hI : I = 1 ∨ I = 2 ∨ I = 0 := by
        rcases hcs with h | h | h
        · exact .inl h.1
        · exact .inr (.inl h.1)
        · exact .inr (.inr h.1)
      clear hcs
      rcases hI with rfl | rfl | rfl
      · cases hr : plRight P
        · obtain ⟨rfl, rfl, rfl, rfl, rfl⟩ := HUN.out rfl hr
          go_upto_region 10 with (first | (go_at_call 67; (with_reducible refine (valong_c ⟨⟨ray.o.x, ray.o.y, ⟨z1, z2, z3⟩⟩, ray.d⟩ ⟨T1, T2, T3⟩ _).mono ?_); rintro e w' ⟨rfl, r, rfl⟩; rw [hP]) | (first | (go_at_call 13; (with_reducible refine (vof_c _ _ _ _).mono ?_); rintro e w' ⟨rfl, r, rfl⟩) | (go_at_call 13; (with_reducible refine (vof_c ⟨_, _, _⟩ ⟨_, _, _⟩ ⟨_, _, _⟩ _).mono ?_); rintro e w' ⟨rfl, r, rfl⟩) | (go_at_call 15; (with_reducible refine (none_c _).mono ?_); rintro e w' ⟨rfl, r, rfl⟩) | (go_at_call 24; (with_reducible refine (vright_c _ _).mono ?_); rintro e w' ⟨rfl, r, rfl⟩) | (go_at_call 24; (with_reducible refine (vright_c ⟨_, _, _⟩ _).mono ?_); rintro e w' ⟨rfl, r, rfl⟩) | (go_at_call 24; (with_reducible refine (vright_c ⟨⟨_, _, _⟩, ⟨_, _, _⟩, ⟨_, _, _⟩⟩ _).mono ?_); rintro e w' ⟨rfl, r, rfl⟩)))
          go_region_law (go_simp; (first | (first | (go_at_call 13; (with_reducible refine (vof_c _ _ _ _).mono ?_); rintro e w' ⟨rfl, r, rfl⟩) | (go_at_call 13; (with_reducible refine (vof_c ⟨_, _, _⟩ ⟨_, _, _⟩ ⟨_, _, _⟩ _).mono ?_); rintro e w' ⟨rfl, r, rfl⟩))))
          all_goals
            go_wp2_with fail
            go_returns
            exact ⟨rfl, (by repeat (first | exact More.refl _ | refine More.alloc ?_ _ | refine More.more ?_ _ | refine More.drew ?_ | refine More.drewN ?_ _))⟩
        · obtain ⟨rfl, rfl, rfl, rfl, rfl⟩ := HYE.out rfl hr
          go_upto_region 11 with (first | (go_at_call 67; (with_reducible refine (valong_c ⟨⟨ray.o.x, ray.o.y, ⟨z1, z2, z3⟩⟩, ray.d⟩ ⟨e1, e2, e3⟩ _).mono ?_); rintro e w' ⟨rfl, r, rfl⟩; rw [hP]) | (first | (go_at_call 13; (with_reducible refine (vof_c _ _ _ _).mono ?_); rintro e w' ⟨rfl, r, rfl⟩) | (go_at_call 13; (with_reducible refine (vof_c ⟨_, _, _⟩ ⟨_, _, _⟩ ⟨_, _, _⟩ _).mono ?_); rintro e w' ⟨rfl, r, rfl⟩) | (go_at_call 15; (with_reducible refine (none_c _).mono ?_); rintro e w' ⟨rfl, r, rfl⟩) | (go_at_call 24; (with_reducible refine (vright_c _ _).mono ?_); rintro e w' ⟨rfl, r, rfl⟩) | (go_at_call 24; (with_reducible refine (vright_c ⟨_, _, _⟩ _).mono ?_); rintro e w' ⟨rfl, r, rfl⟩) | (go_at_call 24; (with_reducible refine (vright_c ⟨⟨_, _, _⟩, ⟨_, _, _⟩, ⟨_, _, _⟩⟩ _).mono ?_); rintro e w' ⟨rfl, r, rfl⟩)))
          go_region
          all_goals
            go_wp2_with fail
            go_returns
            exact ⟨rfl, (by repeat (first | exact More.refl _ | refine More.alloc ?_ _ | refine More.more ?_ _ | refine More.drew ?_ | refine More.drewN ?_ _))⟩
      · obtain ⟨rfl, rfl, rfl, rfl, rfl⟩ := HNO.out (by decide)
        go_upto_region 10 with (first | (go_at_call 67; (with_reducible refine (valong_c ⟨⟨ray.o.x, ray.o.y, ⟨z1, z2, z3⟩⟩, ray.d⟩ ⟨T1, T2, T3⟩ _).mono ?_); rintro e w' ⟨rfl, r, rfl⟩; rw [hP]) | (first | (go_at_call 13; (with_reducible refine (vof_c _ _ _ _).mono ?_); rintro e w' ⟨rfl, r, rfl⟩) | (go_at_call 13; (with_reducible refine (vof_c ⟨_, _, _⟩ ⟨_, _, _⟩ ⟨_, _, _⟩ _).mono ?_); rintro e w' ⟨rfl, r, rfl⟩) | (go_at_call 15; (with_reducible refine (none_c _).mono ?_); rintro e w' ⟨rfl, r, rfl⟩) | (go_at_call 24; (with_reducible refine (vright_c _ _).mono ?_); rintro e w' ⟨rfl, r, rfl⟩) | (go_at_call 24; (with_reducible refine (vright_c ⟨_, _, _⟩ _).mono ?_); rintro e w' ⟨rfl, r, rfl⟩) | (go_at_call 24; (with_reducible refine (vright_c ⟨⟨_, _, _⟩, ⟨_, _, _⟩, ⟨_, _, _⟩⟩ _).mono ?_); rintro e w' ⟨rfl, r, rfl⟩)))
        go_region_law (go_simp; (first | (first | (go_at_call 13; (with_reducible refine (vof_c _ _ _ _).mono ?_); rintro e w' ⟨rfl, r, rfl⟩) | (go_at_call 13; (with_reducible refine (vof_c ⟨_, _, _⟩ ⟨_, _, _⟩ ⟨_, _, _⟩ _).mono ?_); rintro e w' ⟨rfl, r, rfl⟩))))
        all_goals
          go_wp2_with fail
          go_returns
          exact ⟨rfl, (by repeat (first | exact More.refl _ | refine More.alloc ?_ _ | refine More.more ?_ _ | refine More.drew ?_ | refine More.drewN ?_ _))⟩
      · obtain ⟨rfl, rfl, rfl, rfl, rfl⟩ := HNO.out (by decide)
        go_upto_region 10 with (first | (go_at_call 67; (with_reducible refine (valong_c ⟨⟨ray.o.x, ray.o.y, ⟨z1, z2, z3⟩⟩, ray.d⟩ ⟨T1, T2, T3⟩ _).mono ?_); rintro e w' ⟨rfl, r, rfl⟩; rw [hP]) | (first | (go_at_call 13; (with_reducible refine (vof_c _ _ _ _).mono ?_); rintro e w' ⟨rfl, r, rfl⟩) | (go_at_call 13; (with_reducible refine (vof_c ⟨_, _, _⟩ ⟨_, _, _⟩ ⟨_, _, _⟩ _).mono ?_); rintro e w' ⟨rfl, r, rfl⟩) | (go_at_call 15; (with_reducible refine (none_c _).mono ?_); rintro e w' ⟨rfl, r, rfl⟩) | (go_at_call 24; (with_reducible refine (vright_c _ _).mono ?_); rintro e w' ⟨rfl, r, rfl⟩) | (go_at_call 24; (with_reducible refine (vright_c ⟨_, _, _⟩ _).mono ?_); rintro e w' ⟨rfl, r, rfl⟩) | (go_at_call 24; (with_reducible refine (vright_c ⟨⟨_, _, _⟩, ⟨_, _, _⟩, ⟨_, _, _⟩⟩ _).mono ?_); rintro e w' ⟨rfl, r, rfl⟩)))
        go_region_law (go_simp; (first | (first | (go_at_call 13; (with_reducible refine (vof_c _ _ _ _).mono ?_); rintro e w' ⟨rfl, r, rfl⟩) | (go_at_call 13; (with_reducible refine (vof_c ⟨_, _, _⟩ ⟨_, _, _⟩ ⟨_, _, _⟩ _).mono ?_); rintro e w' ⟨rfl, r, rfl⟩))))
        all_goals
          go_wp2_with fail
          go_returns
          exact ⟨rfl, (by repeat (first | exact More.refl _ | refine More.alloc ?_ _ | refine More.more ?_ _ | refine More.drew ?_ | refine More.drewN ?_ _))⟩

end Go.Proofs.Ytggohceeeggnmaa

