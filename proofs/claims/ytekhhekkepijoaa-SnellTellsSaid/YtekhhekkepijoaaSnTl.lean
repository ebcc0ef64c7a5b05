/-
  SnellTells: the walk.
-/
import Derived.Test.YtekhhekkepijoaaLaw17
import Derived.Test.YtekhhekkepijoaaSnellRef
namespace Go.Proofs.Ytekhhekkepijoaa
set_option linter.unusedVariables false
open Go.ChangeShapes Go.WideShapes Go.ChangeAt Go.RowKit

set_option maxHeartbeats 16000000 in
set_option maxRecDepth 100000 in
theorem snellTells_walk (w : World) (a0 : Int) (w0 : (Lit.int .i64 a0).wf = true) (a1 : Int) (w1 : (Lit.int .i64 a1).wf = true) (a2 : Int) (w2 : (Lit.int .i64 a2).wf = true) (a3 : Int) (w3 : (Lit.int .i64 a3).wf = true) (a4 : Int) (w4 : (Lit.int .i64 a4).wf = true) (a5 : Int) (w5 : (Lit.int .i64 a5).wf = true) (a6 : Int) (w6 : (Lit.int .i64 a6).wf = true) (a7 : Int) (w7 : (Lit.int .i64 a7).wf = true) (l8 : Six) (o8 : OkSix l8) (a9 : Bool) :
    Calls Try.prog 4 #[.int .i64 a0, .int .i64 a1, .int .i64 a2, .int .i64 a3, .int .i64 a4, .int .i64 a5, .int .i64 a6, .int .i64 a7, sixV l8, .bool a9] w fun e w' => e = .returned (.bool true) ∧ More w w' := by
  obtain ⟨b01, b02⟩ := bounds_i64 w0
  obtain ⟨b11, b12⟩ := bounds_i64 w1
  obtain ⟨b21, b22⟩ := bounds_i64 w2
  obtain ⟨b31, b32⟩ := bounds_i64 w3
  obtain ⟨b41, b42⟩ := bounds_i64 w4
  obtain ⟨b51, b52⟩ := bounds_i64 w5
  obtain ⟨b61, b62⟩ := bounds_i64 w6
  obtain ⟨b71, b72⟩ := bounds_i64 w7
  have t3 := tdiv_bd a3 3 (by omega) (by omega) (by omega)
  have t4 := tdiv_bd a4 3 (by omega) (by omega) (by omega)
  have N := neql_pl17
  have E := eql_pl17
  obtain ⟨n0, n1⟩ : 0 ≤ a6 % 90000 ∧ a6 % 90000 < 90000 := ⟨Int.emod_nonneg _ (by omega), Int.emod_lt_of_pos _ (by omega)⟩
  obtain ⟨m0, m1⟩ : 0 ≤ a7 % 300 ∧ a7 % 300 < 300 := ⟨Int.emod_nonneg _ (by omega), Int.emod_lt_of_pos _ (by omega)⟩
  obtain ⟨D, hD⟩ : ∃ d, hLean a0 a1 a2 = d := ⟨_, rfl⟩
  obtain ⟨N', hN⟩ : ∃ d, hLean (a3.tdiv 3) (a4.tdiv 3) a5 = d := ⟨_, rfl⟩
  obtain ⟨R, hR⟩ : ∃ d, hPl l8 = d := ⟨_, rfl⟩
  obtain ⟨K, hK⟩ : ∃ d, hIv a6 a7 = d := ⟨_, rfl⟩
  obtain ⟨J, hJ⟩ : ∃ d, hWide (30000 + a6 % 90000) (a7 % 300) = d := ⟨_, rfl⟩
  cases a9 with
  | false =>
    obtain ⟨⟨⟨⟨Px1, Px2, Px3⟩, ⟨Py1, Py2, Py3⟩, ⟨Pz1, Pz2, Pz3⟩⟩, is⟩, hb⟩ : ∃ d, bendP D N' J = d := ⟨_, rfl⟩
    go_enter Try.func4, Try.ntmps4
    go_wp2_with (first | (go_at_call 11; (with_reducible refine (bend_c D N' J _).mono ?_); rintro e w' ⟨rfl, r5, rfl⟩; rw [hb]; dsimp only) | (go_at_call 23; (with_reducible refine (rbend_c D N' J _).mono ?_); rintro e w' ⟨rfl, r5, rfl⟩; rw [hb]; dsimp only) | (first | (go_at_call 16; (with_reducible refine (known17_c _).mono ?_); rintro e w' ⟨rfl, r, rfl⟩) | (go_at_call 18; (with_reducible refine (lean17_c _ _ _ (by omega) (by omega) (by omega) (by omega) (by omega) (by omega) _).mono ?_); rintro e w' ⟨rfl, r, rfl⟩) | (go_at_call 19; (with_reducible refine (hv_c _ (by assumption) _).mono ?_); rintro e w' ⟨rfl, r, rfl⟩) | (go_at_call 19; (with_reducible refine (hv_c ⟨_, _, _, _, _, _⟩ (by assumption) _).mono ?_); rintro e w' ⟨rfl, r, rfl⟩) | (go_at_call 20; (with_reducible refine (hiv_c _ _ (by omega) (by omega) (by omega) (by omega) _).mono ?_); rintro e w' ⟨rfl, r, rfl⟩) | (go_at_call 21; (with_reducible refine (hwide_c _ _ (by omega) (by omega) _).mono ?_); rintro e w' ⟨rfl, r, rfl⟩) | (go_at_call 22; (with_reducible refine (pick_c _ _ (by omega) (by omega) (by omega) (by omega) _).mono ?_); rintro e w' ⟨rfl, rfl⟩)))
    go_returns
    exact ⟨rfl, (by repeat (first | exact More.refl _ | refine More.alloc ?_ _ | refine More.more ?_ _ | refine More.drew ?_ | refine More.drewN ?_ _))⟩
  | true =>
    obtain ⟨⟨⟨⟨Px1, Px2, Px3⟩, ⟨Py1, Py2, Py3⟩, ⟨Pz1, Pz2, Pz3⟩⟩, is⟩, hb⟩ : ∃ d, bendP R N' K = d := ⟨_, rfl⟩
    go_enter Try.func4, Try.ntmps4
    go_wp2_with (first | (go_at_call 11; (with_reducible refine (bend_c R N' K _).mono ?_); rintro e w' ⟨rfl, r5, rfl⟩; rw [hb]; dsimp only) | (go_at_call 23; (with_reducible refine (rbend_c R N' K _).mono ?_); rintro e w' ⟨rfl, r5, rfl⟩; rw [hb]; dsimp only) | (first | (go_at_call 16; (with_reducible refine (known17_c _).mono ?_); rintro e w' ⟨rfl, r, rfl⟩) | (go_at_call 18; (with_reducible refine (lean17_c _ _ _ (by omega) (by omega) (by omega) (by omega) (by omega) (by omega) _).mono ?_); rintro e w' ⟨rfl, r, rfl⟩) | (go_at_call 19; (with_reducible refine (hv_c _ (by assumption) _).mono ?_); rintro e w' ⟨rfl, r, rfl⟩) | (go_at_call 19; (with_reducible refine (hv_c ⟨_, _, _, _, _, _⟩ (by assumption) _).mono ?_); rintro e w' ⟨rfl, r, rfl⟩) | (go_at_call 20; (with_reducible refine (hiv_c _ _ (by omega) (by omega) (by omega) (by omega) _).mono ?_); rintro e w' ⟨rfl, r, rfl⟩) | (go_at_call 21; (with_reducible refine (hwide_c _ _ (by omega) (by omega) _).mono ?_); rintro e w' ⟨rfl, r, rfl⟩) | (go_at_call 22; (with_reducible refine (pick_c _ _ (by omega) (by omega) (by omega) (by omega) _).mono ?_); rintro e w' ⟨rfl, rfl⟩)))
    go_returns
    exact ⟨rfl, (by repeat (first | exact More.refl _ | refine More.alloc ?_ _ | refine More.more ?_ _ | refine More.drew ?_ | refine More.drewN ?_ _))⟩
end Go.Proofs.Ytekhhekkepijoaa

