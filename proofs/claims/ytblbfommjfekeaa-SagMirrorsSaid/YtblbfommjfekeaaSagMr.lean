/-
  SagMirrors: the walk.
-/
import Derived.Test.YtblbfommjfekeaaLaw14
import Derived.Test.YtblbfommjfekeaaSagRef
import Derived.Test.YtblbfommjfekeaaSagHand
namespace Go.Proofs.Ytblbfommjfekeaa
set_option linter.unusedVariables false
open Go.ChangeShapes Go.WideShapes Go.ChangeAt Go.RowKit

set_option maxHeartbeats 16000000 in
set_option maxRecDepth 100000 in
theorem sagMirrors_walk (w : World) (a0 : Int) (w0 : (Lit.int .i64 a0).wf = true) (s1 : Value) (l1 : List RawF) (i1 : Raws w s1 l1) (k1 : ∀ f ∈ l1, OkRaw f) (m1 : l1.length ≤ 9223372036854775807) (a2 : Int) (w2 : (Lit.int .i64 a2).wf = true) (a3 : Int) (w3 : (Lit.int .i64 a3).wf = true) :
    Calls Try.prog 7 #[.int .i64 a0, s1, .int .i64 a2, .int .i64 a3] w fun e w' => e = .returned (.bool true) ∧ More w w' := by
  obtain ⟨b01, b02⟩ := bounds_i64 w0
  obtain ⟨b21, b22⟩ := bounds_i64 w2
  obtain ⟨b31, b32⟩ := bounds_i64 w3
  obtain ⟨c0, c1'⟩ : 0 ≤ a2 % 7864320 ∧ a2 % 7864320 < 7864320 := ⟨Int.emod_nonneg _ (by omega), Int.emod_lt_of_pos _ (by omega)⟩
  obtain ⟨d0, d1⟩ : 0 ≤ a3 % 9000 ∧ a3 % 9000 < 9000 := ⟨Int.emod_nonneg _ (by omega), Int.emod_lt_of_pos _ (by omega)⟩
  obtain ⟨⟨x1, x2, x3⟩, hx⟩ : ∃ d, hWide (a2 % 7864320) (a3 % 9000) = d := ⟨_, rfl⟩
  have hsys : ∀ u, More w u → Calls Try.prog 16 #[.int .i64 a0, s1, .slice none 0 0, .int .i64 4, .bool false] u fun e w' => ∃ v', e = .returned (syV (hsP a0 l1 [] 4).wide v') ∧ More u w' ∧ Sfs w' v' (hsP a0 l1 [] 4).rows := fun u hM => hsys_c a0 s1 (.slice none 0 0) l1 [] 4 u b01 b02 (i1.up hM) k1 m1 (.inl ⟨rfl, _, _, rfl⟩) (by simp) (by simp) (by decide)
  have hright := hsP_right a0 l1 [] 4
  have hmild := hsP_mild a0 l1 [] 4
  have hlen := hsP_len a0 l1 [] (most := 4) (by decide)
  obtain ⟨⟨P, ⟨o1, o2, o3⟩⟩, hY⟩ : ∃ Y, hsP a0 l1 [] 4 = Y := ⟨_, rfl⟩
  rw [hY] at hsys hright hmild hlen
  dsimp only at hsys hright hmild hlen
  have HRT := Lib.hid hright
  have HMD := Lib.hid hmild
  have HSYS := Lib.hid hsys
  clear hsys hright hmild hY i1 k1 m1
  have E := eql_same
  have N := neql_same
  have hp0 : ivPoint 0 = ⟨0, 0, false⟩ := by kernel_rfl
  go_enter Try.func7, Try.ntmps7
  go_wp2_with fail
  go_at_call 16
  refine Calls.mono (HSYS.out _ (by repeat (first | exact More.refl _ | refine More.alloc ?_ _ | refine More.more ?_ _ | refine More.drew ?_ | refine More.drewN ?_ _))) ?_
  rintro e u ⟨v, rfl, ⟨r1, rfl⟩, hS⟩
  obtain ⟨va, vc, rfl, -⟩ := grow_form sfs_pos hS
  have HS := Lib.hid hS
  clear hS HSYS
  go_wp2_with (first | (first | (go_at_call 18; (with_reducible refine (hwide_c _ _ (by omega) (by omega) _).mono ?_); rintro e w' ⟨rfl, r, rfl⟩) | (go_at_call 19; (with_reducible refine (pick_c _ _ (by omega) (by omega) (by omega) (by omega) _).mono ?_); rintro e w' ⟨rfl, rfl⟩)))
  clear hx
  go_loopw [28] (fun i wr => ∃ k : Nat, k ≤ P.length ∧ i = .int .i64 k ∧ More ((more ((more w r1).alloc (.cells #[.slice va P.length vc, .int .i64 o1, .int .i64 o2, .bool o3] 37)) r).alloc (.cells #[.int .i64 x1, .int .i64 x2, .bool x3] 23)) wr) (fun i _ => P.length - (intOf i).toNat)
  case atStart => exact ⟨0, by omega, rfl, (by repeat (first | exact More.refl _ | refine More.alloc ?_ _ | refine More.more ?_ _ | refine More.drew ?_ | refine More.drewN ?_ _))⟩
  case round =>
    obtain ⟨k, hk, rfl, s, rfl⟩ := hrel
    by_cases hkl : k < P.length
    · obtain ⟨f, hf⟩ : ∃ f, P[k]? = some f := ⟨P[k], List.getElem?_eq_getElem hkl⟩
      obtain ⟨b, off, rfl, hb, hL, -⟩ := sfs_at (w := ((more ((more w r1).alloc (.cells #[.slice va P.length vc, .int .i64 o1, .int .i64 o2, .bool o3] 37)) r).alloc (.cells #[.int .i64 x1, .int .i64 x2, .bool x3] 23))) (HS.out.up (by repeat (first | exact More.refl _ | refine More.alloc ?_ _ | refine More.more ?_ _ | refine More.drew ?_ | refine More.drewN ?_ _))) hf
      have hlt : ((k : Nat) : Int) < ((P.length : Nat) : Int) := by omega
      have hmem := List.mem_of_getElem? hf
      have hcr := HRT.out f hmem
      have hmd := HMD.out f hmem
      clear hf hmem
      have hcu : ivRight f.curve = true := hmd.curve.1
      have hneg := sag_neg hcu ⟨x1, x2, x3⟩
      clear hcr hmd hcu
      obtain ⟨fs, fb, ⟨c1, c2, c3⟩, ⟨h1, h2, h3⟩, ⟨p1, p2, p3⟩, ⟨q1, q2, q3⟩, ⟨g1, g2, g3⟩, ⟨u1, u2, u3⟩, ⟨y1, y2, y3⟩⟩ := f
      obtain ⟨⟨n1, n2, n3⟩, hn⟩ : ∃ d, ivNeg ⟨c1, c2, c3⟩ = d := ⟨_, rfl⟩
      obtain ⟨⟨t1, t2, t3⟩, ht⟩ : ∃ d, ivNeg ⟨p1, p2, p3⟩ = d := ⟨_, rfl⟩
      obtain ⟨⟨e1, e2, e3⟩, he⟩ : ∃ d, ivNeg ⟨q1, q2, q3⟩ = d := ⟨_, rfl⟩
      unfold negS at hneg
      dsimp only at hneg
      rw [hn, ht, he] at hneg
      obtain ⟨hz, hm⟩ := hneg
      obtain ⟨⟨z1, z2, z3⟩, hz1⟩ : ∃ d, sagZ ⟨fs, fb, ⟨c1, c2, c3⟩, ⟨h1, h2, h3⟩, ⟨p1, p2, p3⟩, ⟨q1, q2, q3⟩, ⟨g1, g2, g3⟩, ⟨u1, u2, u3⟩, ⟨y1, y2, y3⟩⟩ ⟨x1, x2, x3⟩ = d := ⟨_, rfl⟩
      obtain ⟨⟨m1, m2, m3⟩, hm1⟩ : ∃ d, sagM ⟨fs, fb, ⟨c1, c2, c3⟩, ⟨h1, h2, h3⟩, ⟨p1, p2, p3⟩, ⟨q1, q2, q3⟩, ⟨g1, g2, g3⟩, ⟨u1, u2, u3⟩, ⟨y1, y2, y3⟩⟩ ⟨x1, x2, x3⟩ = d := ⟨_, rfl⟩
      rw [hz1] at hz
      rw [hm1] at hm
      obtain ⟨⟨v1, v2, v3⟩, hv⟩ : ∃ d, ivNeg ⟨z1, z2, z3⟩ = d := ⟨_, rfl⟩
      obtain ⟨⟨j1, j2, j3⟩, hj⟩ : ∃ d, ivNeg ⟨m1, m2, m3⟩ = d := ⟨_, rfl⟩
      rw [hv] at hz
      rw [hj] at hm
      go_wp2_with (first | (first | (go_at_call 11; (with_reducible refine (sag_c _ _ _).mono ?_); rintro e w' ⟨rfl, r, rfl⟩) | (go_at_call 11; (with_reducible refine (sag_c _ ⟨_, _, _⟩ _).mono ?_); rintro e w' ⟨rfl, r, rfl⟩) | (go_at_call 11; (with_reducible refine (sag_c ⟨_, _, ⟨_, _, _⟩, ⟨_, _, _⟩, ⟨_, _, _⟩, ⟨_, _, _⟩, ⟨_, _, _⟩, ⟨_, _, _⟩, ⟨_, _, _⟩⟩ ⟨_, _, _⟩ _).mono ?_); rintro e w' ⟨rfl, r, rfl⟩) | (go_at_call 24; (with_reducible refine (neg_c _ _).mono ?_); rintro e w' ⟨rfl, r, rfl⟩) | (go_at_call 24; (with_reducible refine (neg_c ⟨_, _, _⟩ _).mono ?_); rintro e w' ⟨rfl, r, rfl⟩) | ((with_reducible show Code.wp _ (Code.region 11 _ true) _ _ _); (with_reducible refine wp_more_quick_m (id := 11) ?_ ?_ ?_); kernel_rfl; kernel_rfl; (try simp only [List.take_succ_cons, List.take_zero, List.drop_succ_cons, List.drop_zero]); (repeat (any_goals (first | go_big_quiet_step ((first | (go_at_call 11; (with_reducible apply quiet_call); with_reducible exact sag_c _ _ _) | (go_at_call 11; (with_reducible apply quiet_call); with_reducible exact sag_c _ ⟨_, _, _⟩ _) | (go_at_call 11; (with_reducible apply quiet_call); with_reducible exact sag_c ⟨_, _, ⟨_, _, _⟩, ⟨_, _, _⟩, ⟨_, _, _⟩, ⟨_, _, _⟩, ⟨_, _, _⟩, ⟨_, _, _⟩, ⟨_, _, _⟩⟩ ⟨_, _, _⟩ _) | (go_at_call 24; (with_reducible apply quiet_call); with_reducible exact neg_c _ _) | (go_at_call 24; (with_reducible apply quiet_call); with_reducible exact neg_c ⟨_, _, _⟩ _))) | quiet_step ((first | (go_at_call 11; (with_reducible apply quiet_call); with_reducible exact sag_c _ _ _) | (go_at_call 11; (with_reducible apply quiet_call); with_reducible exact sag_c _ ⟨_, _, _⟩ _) | (go_at_call 11; (with_reducible apply quiet_call); with_reducible exact sag_c ⟨_, _, ⟨_, _, _⟩, ⟨_, _, _⟩, ⟨_, _, _⟩, ⟨_, _, _⟩, ⟨_, _, _⟩, ⟨_, _, _⟩, ⟨_, _, _⟩⟩ ⟨_, _, _⟩ _) | (go_at_call 24; (with_reducible apply quiet_call); with_reducible exact neg_c _ _) | (go_at_call 24; (with_reducible apply quiet_call); with_reducible exact neg_c ⟨_, _, _⟩ _)))))); (with_reducible refine wpQuiet_nil ?_); intro r) | ((with_reducible show Code.wp _ (Code.region 11 _ true) _ _ _); (with_reducible refine wp_more_quick (id := 11) ?_ ?_ ?_); kernel_rfl; kernel_rfl; (try simp only [List.take_succ_cons, List.take_zero, List.drop_succ_cons, List.drop_zero]); (repeat (any_goals (first | go_big_quiet_step ((first | (go_at_call 11; (with_reducible apply quiet_call); with_reducible exact sag_c _ _ _) | (go_at_call 11; (with_reducible apply quiet_call); with_reducible exact sag_c _ ⟨_, _, _⟩ _) | (go_at_call 11; (with_reducible apply quiet_call); with_reducible exact sag_c ⟨_, _, ⟨_, _, _⟩, ⟨_, _, _⟩, ⟨_, _, _⟩, ⟨_, _, _⟩, ⟨_, _, _⟩, ⟨_, _, _⟩, ⟨_, _, _⟩⟩ ⟨_, _, _⟩ _) | (go_at_call 24; (with_reducible apply quiet_call); with_reducible exact neg_c _ _) | (go_at_call 24; (with_reducible apply quiet_call); with_reducible exact neg_c ⟨_, _, _⟩ _))) | quiet_step ((first | (go_at_call 11; (with_reducible apply quiet_call); with_reducible exact sag_c _ _ _) | (go_at_call 11; (with_reducible apply quiet_call); with_reducible exact sag_c _ ⟨_, _, _⟩ _) | (go_at_call 11; (with_reducible apply quiet_call); with_reducible exact sag_c ⟨_, _, ⟨_, _, _⟩, ⟨_, _, _⟩, ⟨_, _, _⟩, ⟨_, _, _⟩, ⟨_, _, _⟩, ⟨_, _, _⟩, ⟨_, _, _⟩⟩ ⟨_, _, _⟩ _) | (go_at_call 24; (with_reducible apply quiet_call); with_reducible exact neg_c _ _) | (go_at_call 24; (with_reducible apply quiet_call); with_reducible exact neg_c ⟨_, _, _⟩ _)))))); (with_reducible refine wpQuiet_nil ?_); intro r)))
      go_roundw
      case rel => exact ⟨k + 1, by omega, rfl, (by repeat (first | exact More.refl _ | refine More.alloc ?_ _ | refine More.more ?_ _ | refine More.drew ?_ | refine More.drewN ?_ _))⟩
      case measure => simp [intOf] <;> omega
    · obtain rfl : k = P.length := by omega
      go_wp2_with (first | (first | (go_at_call 14; (with_reducible refine (known14_c _).mono ?_); rintro e w' ⟨rfl, r, rfl⟩)))
      go_returns
      exact ⟨rfl, (by repeat (first | exact More.refl _ | refine More.alloc ?_ _ | refine More.more ?_ _ | refine More.drew ?_ | refine More.drewN ?_ _))⟩
end Go.Proofs.Ytblbfommjfekeaa

