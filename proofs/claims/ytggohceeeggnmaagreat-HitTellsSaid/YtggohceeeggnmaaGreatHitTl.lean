/-
  HitTells: the walk.
-/
import Derived.Test.YtggohceeeggnmaaGreatLaw15
import Derived.Test.YtggohceeeggnmaaGreatHitRf
import Derived.Test.YtggohceeeggnmaaGreatHitHand
import Derived.Test.YtggohceeeggnmaaGreatGy5
import Derived.Test.YtggohceeeggnmaaGreatHandSys
import Derived.Test.YtggohceeeggnmaaGreatGm5
import Derived.Test.YtggohceeeggnmaaGreatGl
import Derived.Test.YtggohceeeggnmaaGreatGq5
namespace Go.Proofs.YtggohceeeggnmaaGreat
set_option linter.unusedVariables false
open Go.ChangeShapes Go.WideShapes Go.ChangeAt Go.RowKit

set_option maxHeartbeats 16000000 in
set_option maxRecDepth 100000 in
theorem hitTells_walk (w : World) (a0 : Int) (w0 : (Lit.int .i64 a0).wf = true) (s1 : Value) (l1 : List RawF) (i1 : Raws w s1 l1) (k1 : ∀ f ∈ l1, OkRaw f) (m1 : l1.length ≤ 9223372036854775807) (s2 : Value) (l2 : List RawF) (i2 : Raws w s2 l2) (k2 : ∀ f ∈ l2, OkRaw f) (m2 : l2.length ≤ 9223372036854775807) (l3 : Six) (o3' : OkSix l3) (l4 : Six) (o4' : OkSix l4) (a5 : Bool) :
    Calls Tryz.prog 3 #[.int .i64 a0, s1, s2, sixV l3, sixV l4, .bool a5] w fun e w' => e = .returned (.bool true) ∧ More w w' := by
  obtain ⟨b01, b02⟩ := bounds_i64 w0
  obtain ⟨ao, c2, rfl, hrw⟩ := raws_form i2
  have hsys : ∀ u, More w u → Calls Tryz.prog 6 #[.int .i64 a0, s1, .slice none 0 0, .int .i64 3, .bool false] u fun e w' => ∃ v', e = .returned (syV (hsP a0 l1 [] 3).wide v') ∧ More u w' ∧ Sfs w' v' (hsP a0 l1 [] 3).rows := fun u hM => hsys_c a0 s1 (.slice none 0 0) l1 [] 3 u b01 b02 (i1.up hM) k1 m1 (.inl ⟨rfl, _, _, rfl⟩) (by simp) (by simp) (by decide)
  have hlen := hsP_len a0 l1 [] (most := 3) (by decide)
  obtain ⟨⟨P, ⟨o1, o2, o3⟩⟩, hY⟩ : ∃ Y, hsP a0 l1 [] 3 = Y := ⟨_, rfl⟩
  rw [hY] at hsys hlen
  dsimp only at hsys hlen
  have HSYS := Lib.hid hsys
  have HRW := Lib.hid hrw
  clear hsys hrw hY i1 k1 m1 i2
  have N := neql_same
  have NP := neql_pl_same
  go_enter Tryz.func3, Tryz.ntmps3
  go_wp2_with fail
  go_at_call 6
  refine Calls.mono (HSYS.out _ (by repeat (first | exact More.refl _ | refine More.alloc ?_ _ | refine More.more ?_ _ | refine More.drew ?_ | refine More.drewN ?_ _))) ?_
  rintro e u ⟨v, rfl, ⟨rs, rfl⟩, hS⟩
  obtain ⟨va, vc, rfl, -⟩ := grow_form sfs_pos hS
  have HS := Lib.hid hS
  clear hS HSYS
  go_wp2_with fail
  go_loopw [14] (fun i wr => ∃ j : Nat, j ≤ 4 ∧ i = .int .i64 j ∧ More ((more ((w.alloc (.cells #[.int .i64 l3.a, .int .i64 l3.b, .int .i64 l3.c, .int .i64 l3.d, .int .i64 l3.e, .int .i64 l3.f] 24)).alloc (.cells #[.int .i64 l4.a, .int .i64 l4.b, .int .i64 l4.c, .int .i64 l4.d, .int .i64 l4.e, .int .i64 l4.f] 24)) rs).alloc (.cells #[.slice va P.length vc, .int .i64 o1, .int .i64 o2, .bool o3] 29)) wr) (fun i _ => 4 - (intOf i).toNat)
  case atStart => exact ⟨0, by omega, rfl, (by repeat (first | exact More.refl _ | refine More.alloc ?_ _ | refine More.more ?_ _ | refine More.drew ?_ | refine More.drewN ?_ _))⟩
  case round =>
    obtain ⟨j, hj, rfl, s, rfl⟩ := hrel
    by_cases hjl : j < l2.length ∧ j < 4
    · obtain ⟨hj1, hj2⟩ := hjl
      have hlt1 : ((j : Nat) : Int) < ((l2.length : Nat) : Int) := by omega
      have hlt2 : ((j : Nat) : Int) < 4 := by omega
      obtain ⟨g, hg⟩ : ∃ g, l2[j]? = some g := ⟨l2[j], List.getElem?_eq_getElem hj1⟩
      obtain ⟨b2, off2, rfl, hb2, hcells⟩ := HRW.out (by omega)
      have hok : OkSix ⟨g.kind, g.r, g.a, g.t, g.g, g.k⟩ := k2 g (List.mem_of_getElem? hg)
      have hc0 : (more ((more ((w.alloc (.cells #[.int .i64 l3.a, .int .i64 l3.b, .int .i64 l3.c, .int .i64 l3.d, .int .i64 l3.e, .int .i64 l3.f] 24)).alloc (.cells #[.int .i64 l4.a, .int .i64 l4.b, .int .i64 l4.c, .int .i64 l4.d, .int .i64 l4.e, .int .i64 l4.f] 24)) rs).alloc (.cells #[.slice va P.length vc, .int .i64 o1, .int .i64 o2, .bool o3] 29)) s).cell? ⟨b2, off2 + j * 6, none⟩ = some (.int .i64 g.kind) := cell_up (by repeat (first | exact More.refl _ | refine More.alloc ?_ _ | refine More.more ?_ _ | refine More.drew ?_ | refine More.drewN ?_ _)) (hcells j g hg 0 _ rfl)
      have hc1 : (more ((more ((w.alloc (.cells #[.int .i64 l3.a, .int .i64 l3.b, .int .i64 l3.c, .int .i64 l3.d, .int .i64 l3.e, .int .i64 l3.f] 24)).alloc (.cells #[.int .i64 l4.a, .int .i64 l4.b, .int .i64 l4.c, .int .i64 l4.d, .int .i64 l4.e, .int .i64 l4.f] 24)) rs).alloc (.cells #[.slice va P.length vc, .int .i64 o1, .int .i64 o2, .bool o3] 29)) s).cell? ⟨b2, off2 + (j * 6 + 1), none⟩ = some (.int .i64 g.r) := cell_up (by repeat (first | exact More.refl _ | refine More.alloc ?_ _ | refine More.more ?_ _ | refine More.drew ?_ | refine More.drewN ?_ _)) (hcells j g hg 1 _ rfl)
      have hc2 : (more ((more ((w.alloc (.cells #[.int .i64 l3.a, .int .i64 l3.b, .int .i64 l3.c, .int .i64 l3.d, .int .i64 l3.e, .int .i64 l3.f] 24)).alloc (.cells #[.int .i64 l4.a, .int .i64 l4.b, .int .i64 l4.c, .int .i64 l4.d, .int .i64 l4.e, .int .i64 l4.f] 24)) rs).alloc (.cells #[.slice va P.length vc, .int .i64 o1, .int .i64 o2, .bool o3] 29)) s).cell? ⟨b2, off2 + (j * 6 + 2), none⟩ = some (.int .i64 g.a) := cell_up (by repeat (first | exact More.refl _ | refine More.alloc ?_ _ | refine More.more ?_ _ | refine More.drew ?_ | refine More.drewN ?_ _)) (hcells j g hg 2 _ rfl)
      have hc3 : (more ((more ((w.alloc (.cells #[.int .i64 l3.a, .int .i64 l3.b, .int .i64 l3.c, .int .i64 l3.d, .int .i64 l3.e, .int .i64 l3.f] 24)).alloc (.cells #[.int .i64 l4.a, .int .i64 l4.b, .int .i64 l4.c, .int .i64 l4.d, .int .i64 l4.e, .int .i64 l4.f] 24)) rs).alloc (.cells #[.slice va P.length vc, .int .i64 o1, .int .i64 o2, .bool o3] 29)) s).cell? ⟨b2, off2 + (j * 6 + 3), none⟩ = some (.int .i64 g.t) := cell_up (by repeat (first | exact More.refl _ | refine More.alloc ?_ _ | refine More.more ?_ _ | refine More.drew ?_ | refine More.drewN ?_ _)) (hcells j g hg 3 _ rfl)
      have hc4 : (more ((more ((w.alloc (.cells #[.int .i64 l3.a, .int .i64 l3.b, .int .i64 l3.c, .int .i64 l3.d, .int .i64 l3.e, .int .i64 l3.f] 24)).alloc (.cells #[.int .i64 l4.a, .int .i64 l4.b, .int .i64 l4.c, .int .i64 l4.d, .int .i64 l4.e, .int .i64 l4.f] 24)) rs).alloc (.cells #[.slice va P.length vc, .int .i64 o1, .int .i64 o2, .bool o3] 29)) s).cell? ⟨b2, off2 + (j * 6 + 4), none⟩ = some (.int .i64 g.g) := cell_up (by repeat (first | exact More.refl _ | refine More.alloc ?_ _ | refine More.more ?_ _ | refine More.drew ?_ | refine More.drewN ?_ _)) (hcells j g hg 4 _ rfl)
      have hc5 : (more ((more ((w.alloc (.cells #[.int .i64 l3.a, .int .i64 l3.b, .int .i64 l3.c, .int .i64 l3.d, .int .i64 l3.e, .int .i64 l3.f] 24)).alloc (.cells #[.int .i64 l4.a, .int .i64 l4.b, .int .i64 l4.c, .int .i64 l4.d, .int .i64 l4.e, .int .i64 l4.f] 24)) rs).alloc (.cells #[.slice va P.length vc, .int .i64 o1, .int .i64 o2, .bool o3] 29)) s).cell? ⟨b2, off2 + (j * 6 + 5), none⟩ = some (.int .i64 g.k) := cell_up (by repeat (first | exact More.refl _ | refine More.alloc ?_ _ | refine More.more ?_ _ | refine More.drew ?_ | refine More.drewN ?_ _)) (hcells j g hg 5 _ rfl)
      clear hcells hg
      obtain ⟨ρ0, hρ⟩ : ∃ ρ0, hRay ⟨g.kind, g.r, g.a, g.t, g.g, g.k⟩ = ρ0 := ⟨_, rfl⟩
      go_upto_region 6 with (first | (go_at_call 7; (with_reducible refine (hray_c ⟨g.kind, g.r, g.a, g.t, g.g, g.k⟩ hok _).mono ?_); rintro e w' ⟨rfl, rq, rfl⟩; rw [hρ]))
      go_cut [15, 45, 93] from 26 (fun p u z wx => z = undef ∧ u = .bool (a5 && ((j : Int) == 0)) ∧ ∃ r : Rest, p = .pointer (some ⟨w.heap.size + (2 + (rs.len + (1 + r.len))), 0, none⟩) ∧ wx = (more ((more ((w.alloc (.cells #[.int .i64 l3.a, .int .i64 l3.b, .int .i64 l3.c, .int .i64 l3.d, .int .i64 l3.e, .int .i64 l3.f] 24)).alloc (.cells #[.int .i64 l4.a, .int .i64 l4.b, .int .i64 l4.c, .int .i64 l4.d, .int .i64 l4.e, .int .i64 l4.f] 24)) rs).alloc (.cells #[.slice va P.length vc, .int .i64 o1, .int .i64 o2, .bool o3] 29)) r).alloc (.cells #[.int .i64 ρ0.o.x.lo, .int .i64 ρ0.o.x.hi, .bool ρ0.o.x.no, .int .i64 ρ0.o.y.lo, .int .i64 ρ0.o.y.hi, .bool ρ0.o.y.no, .int .i64 ρ0.o.z.lo, .int .i64 ρ0.o.z.hi, .bool ρ0.o.z.no, .int .i64 ρ0.d.x.lo, .int .i64 ρ0.d.x.hi, .bool ρ0.d.x.no, .int .i64 ρ0.d.y.lo, .int .i64 ρ0.d.y.hi, .bool ρ0.d.y.no, .int .i64 ρ0.d.z.lo, .int .i64 ρ0.d.z.hi, .bool ρ0.d.z.no] 34))
      case first =>
        cases a5
        · go_wp2_with fail
          go_meet
          exact ⟨rfl, by simp, _, rfl, rfl⟩
        · go_wp2_with fail
          go_meet
          exact ⟨rfl, by simp, _, rfl, rfl⟩
      case rest =>
      obtain ⟨rfl, rfl, rq, rfl, rfl⟩ := hcut
      clear hc0 hc1 hc2 hc3 hc4 hc5 hρ hok
      go_upto_if 45 with fail
      go_cut [15, 93] from 26 (fun p z wx => z = undef ∧ ∃ (m : Nat) (ρ : Wy), p = .pointer (some ⟨m, 0, none⟩) ∧ More ((more ((w.alloc (.cells #[.int .i64 l3.a, .int .i64 l3.b, .int .i64 l3.c, .int .i64 l3.d, .int .i64 l3.e, .int .i64 l3.f] 24)).alloc (.cells #[.int .i64 l4.a, .int .i64 l4.b, .int .i64 l4.c, .int .i64 l4.d, .int .i64 l4.e, .int .i64 l4.f] 24)) rs).alloc (.cells #[.slice va P.length vc, .int .i64 o1, .int .i64 o2, .bool o3] 29)) wx ∧ OkWyAt wx m ρ)
      case first =>
        cases hb : (a5 && ((j : Int) == 0))
        · go_wp2_with fail
          go_meet
          exact ⟨rfl, _, ρ0, rfl, (by repeat (first | exact More.refl _ | refine More.alloc ?_ _ | refine More.more ?_ _ | refine More.drew ?_ | refine More.drewN ?_ _)), heap_at _ (More.refl _) (by simp [Nat.add_assoc])⟩
        · go_wp2_with (first | (first | (go_at_call 8; (with_reducible refine (hv_c _ (by assumption) _).mono ?_); rintro e w' ⟨rfl, r, rfl⟩) | (go_at_call 8; (with_reducible refine (hv_c ⟨_, _, _, _, _, _⟩ (by assumption) _).mono ?_); rintro e w' ⟨rfl, r, rfl⟩) | ((with_reducible show Code.wp _ (Code.region 7 _ true) _ _ _); (with_reducible refine wp_more_tailq_m (id := 7) 5 ?_ ?_ ?_); kernel_rfl; kernel_rfl; (try simp only [List.take_succ_cons, List.take_zero, List.drop_succ_cons, List.drop_zero]); (repeat (any_goals (first | go_big_quiet_step ((first | (go_at_call 8; (with_reducible apply quiet_call); with_reducible exact hv_c _ (by assumption) _) | (go_at_call 8; (with_reducible apply quiet_call); with_reducible exact hv_c ⟨_, _, _, _, _, _⟩ (by assumption) _))) | quiet_step ((first | (go_at_call 8; (with_reducible apply quiet_call); with_reducible exact hv_c _ (by assumption) _) | (go_at_call 8; (with_reducible apply quiet_call); with_reducible exact hv_c ⟨_, _, _, _, _, _⟩ (by assumption) _)))))); (with_reducible refine wpQuiet_nil ?_); intro r) | ((with_reducible show Code.wp _ (Code.region 7 _ true) _ _ _); (with_reducible refine wp_more_tailq (id := 7) 5 ?_ ?_ ?_); kernel_rfl; kernel_rfl; (try simp only [List.take_succ_cons, List.take_zero, List.drop_succ_cons, List.drop_zero]); (repeat (any_goals (first | go_big_quiet_step ((first | (go_at_call 8; (with_reducible apply quiet_call); with_reducible exact hv_c _ (by assumption) _) | (go_at_call 8; (with_reducible apply quiet_call); with_reducible exact hv_c ⟨_, _, _, _, _, _⟩ (by assumption) _))) | quiet_step ((first | (go_at_call 8; (with_reducible apply quiet_call); with_reducible exact hv_c _ (by assumption) _) | (go_at_call 8; (with_reducible apply quiet_call); with_reducible exact hv_c ⟨_, _, _, _, _, _⟩ (by assumption) _)))))); (with_reducible refine wpQuiet_nil ?_); intro r)))
          go_meet
          exact ⟨rfl, _, ⟨hPl l3, hPl l4⟩, rfl, (by repeat (first | exact More.refl _ | refine More.alloc ?_ _ | refine More.more ?_ _ | refine More.drew ?_ | refine More.drewN ?_ _)), heap_at _ (by repeat (first | exact More.refl _ | refine More.alloc ?_ _ | refine More.more ?_ _ | refine More.drew ?_ | refine More.drewN ?_ _)) (by simp [Nat.add_assoc])⟩
      case rest =>
      obtain ⟨rfl, m, ρ, rfl, hMX, hW⟩ := hcut
      have hSy : wc.heap[w.heap.size + (2 + rs.len)]? = some (.cells #[.slice va P.length vc, .int .i64 o1, .int .i64 o2, .bool o3] 29 (0, 0)) := heap_at _ hMX (by simp [Nat.add_assoc])
      have ey : wc.cell? ⟨w.heap.size + (2 + rs.len), 0, none⟩ = some (.slice va P.length vc) := by simp [World.cell?, hSy]
      have ly : w.heap.size + (2 + rs.len) < wc.heap.size := (Array.getElem?_eq_some_iff.1 hSy).1
      have HMX := Lib.hid hMX
      have HSY := Lib.hid hSy
      have HW := Lib.hid hW
      clear hMX hSy hW
      go_wp2_with fail
      go_loopw [54] (fun i wr => ∃ k : Nat, k ≤ P.length ∧ i = .int .i64 k ∧ More wc wr) (fun i _ => P.length - (intOf i).toNat)
      case atStart => exact ⟨0, by omega, rfl, (by repeat (first | exact More.refl _ | refine More.alloc ?_ _ | refine More.more ?_ _ | refine More.drew ?_ | refine More.drewN ?_ _))⟩
      case round =>
        obtain ⟨k, hk, rfl, s5, rfl⟩ := hrel
        by_cases hkl : k < P.length
        · obtain ⟨f, hf⟩ : ∃ f, P[k]? = some f := ⟨P[k], List.getElem?_eq_getElem hkl⟩
          obtain ⟨b, off, rfl, hb, hL, -⟩ := sfs_at (w := wc) (HS.out.up (More.trans (by repeat (first | exact More.refl _ | refine More.alloc ?_ _ | refine More.more ?_ _ | refine More.drew ?_ | refine More.drewN ?_ _)) HMX.out)) hf
          have hltk : ((k : Nat) : Int) < ((P.length : Nat) : Int) := by omega
          clear hf
          have hall : ∀ w', More wc w' → (loadWhole 43 ⟨b, off + k * 23, none⟩).run Tryz.prog w' = .ok (sfV f) w' := by
            rintro w' ⟨r', rfl⟩
            exact hL r'
          have HALL := Lib.hid hall
          clear hall
          generalize hwv : more wc s5 = wv
          have hMc0 : More wc wv := ⟨s5, hwv.symm⟩
          clear hwv hL ey ly
          have hR0 : OkWyAt wv m ρ := HW.out.up hMc0
          have LW0 := load_wyat hR0
          have LWR0 : ∀ R, (loadWhole 34 ⟨m, 0, none⟩).run Tryz.prog (more wv R) = .ok (wyV ρ) (more wv R) := fun R => load_wyat (hR0.up ((More.refl _).more R))
          have hS0 := heap_up hMc0 HSY.out
          have ey0 : wv.cell? ⟨w.heap.size + (2 + rs.len), 0, none⟩ = some (.slice (some ⟨b, off, none⟩) P.length vc) := by simp [World.cell?, hS0]
          have ly0 : w.heap.size + (2 + rs.len) < wv.heap.size := (Array.getElem?_eq_some_iff.1 hS0).1
          have lm0 : m < wv.heap.size := (Array.getElem?_eq_some_iff.1 hR0).1
          have LF0 : (loadWhole 43 ⟨b, off + k * 23, none⟩).run Tryz.prog wv = .ok (sfV f) wv := HALL.out _ hMc0
          have LFR0 : ∀ R, (loadWhole 43 ⟨b, off + k * 23, none⟩).run Tryz.prog (more wv R) = .ok (sfV f) (more wv R) := fun R => HALL.out _ (More.trans hMc0 ((More.refl _).more R))
          have HMc0 := Lib.hid hMc0
          clear hMc0 hR0 hS0
          go_upto_region 11 with fail
          (first | (with_reducible refine wp_more_apartl_m (id := 11) 13 94 [9, 10] [(27, #[.int .i64 0, .int .i64 0, .bool false]), (32, #[.int .i64 0, .int .i64 0, .bool false, .int .i64 0, .int .i64 0, .bool false, .int .i64 0, .int .i64 0, .bool false])] ?_ ?_ ?_ ?_ ?_ ?_ ?_ ?_ ?_ ?_) | (refine wp_more_apartl (id := 11) 13 94 [9, 10] [(27, #[.int .i64 0, .int .i64 0, .bool false]), (32, #[.int .i64 0, .int .i64 0, .bool false, .int .i64 0, .int .i64 0, .bool false, .int .i64 0, .int .i64 0, .bool false])] ?_ ?_ ?_ ?_ ?_ ?_ ?_ ?_ ?_ ?_))
          · intro p hp; simp only [List.mem_cons, List.not_mem_nil, or_false] at hp; rcases hp with rfl | rfl <;> first | exact new_iv | exact new_pl
          · kernel_rfl
          · kernel_rfl
          · kernel_rfl
          · kernel_rfl
          · kernel_rfl
          · kernel_rfl
          · rfl
          · (intro _ _ _ _ _ h; exact h)
          simp only [List.take_succ_cons, List.take_zero, List.drop_succ_cons, List.drop_zero]
          (repeat (first | (refine loose_alloc 17 27 #[.int .i64 0, .int .i64 0, .bool false] new_iv rfl rfl rfl rfl (by simp) ?_) | (refine loose_alloc 17 32 #[.int .i64 0, .int .i64 0, .bool false, .int .i64 0, .int .i64 0, .bool false, .int .i64 0, .int .i64 0, .bool false] new_pl rfl rfl rfl rfl (by simp) ?_) | (refine loose_alloc 18 27 #[.int .i64 0, .int .i64 0, .bool false] new_iv rfl rfl rfl rfl (by simp) ?_) | (refine loose_alloc 18 32 #[.int .i64 0, .int .i64 0, .bool false, .int .i64 0, .int .i64 0, .bool false, .int .i64 0, .int .i64 0, .bool false] new_pl rfl rfl rfl rfl (by simp) ?_) | (refine loose_step rfl (fun K9 hK9 => ?_); go_simp; first | (refine hK9 _ ?_; clear hK9 K9) | (apply Exists.intro; refine ⟨fun _ => ?_, hK9 _ ?_⟩; ((first | (go_at_call 9; with_reducible exact hitof_c f ρ _) | (go_at_call 9; with_reducible exact hitof_c _ _ _) | (go_at_call 9; with_reducible exact hitof_c _ ⟨_, _⟩ _) | (go_at_call 9; with_reducible exact hitof_c ⟨_, _, ⟨_, _, _⟩, ⟨_, _, _⟩, ⟨_, _, _⟩, ⟨_, _, _⟩, ⟨_, _, _⟩, ⟨_, _, _⟩, ⟨_, _, _⟩⟩ ⟨_, _⟩ _) | (go_at_call 9; with_reducible exact hitof_c _ ⟨⟨_, _, _⟩, ⟨_, _, _⟩⟩ _) | (go_at_call 9; with_reducible exact hitof_c ⟨_, _, ⟨_, _, _⟩, ⟨_, _, _⟩, ⟨_, _, _⟩, ⟨_, _, _⟩, ⟨_, _, _⟩, ⟨_, _, _⟩, ⟨_, _, _⟩⟩ ⟨⟨_, _, _⟩, ⟨_, _, _⟩⟩ _))); clear hK9 K9))))
          intro r
          simp only [allFits]
          rintro _ ⟨b2', rfl, hb2', hc2'⟩ _ ⟨b1', rfl, hb1', hc1'⟩ hfar
          have n12 := hfar 11 12 _ _ _ _ 17 18 rfl rfl rfl rfl rfl rfl (by decide)
          simp [Act.put] at n12
          refine two_end2 27 32 3 9 (.tmp 17) (.tmp 65) (.tmp 18) (.tmp 66) b1' b2' _ _ (cellsI ((hitP f ρ).1)) (cellsP ((hitP f ρ).2.1)) rfl rfl rfl rfl rfl rfl rfl rfl rfl rfl size_ivT size_pl rfl rfl (by decide) (by decide) (one_iv _ _ _) (one_pl _) ((More.refl _).more r) hb1' hb2' hc1' rfl hc2' rfl n12 ?_
          clear hfar n12 hb1' hb2' hc1' hc2'
          intro v0 hMv0 h1v0 h2v0
          have hM01 : More wv v0 := More.trans (by repeat (first | exact More.refl _ | refine More.alloc ?_ _ | refine More.more ?_ _ | refine More.drew ?_ | refine More.drewN ?_ _)) hMv0
          have hMc1 : More wc v0 := More.trans HMc0.out hM01
          clear hMv0 hM01 LW0 LWR0 ey0 ly0 lm0 LF0 LFR0
          have hR1 : OkWyAt v0 m ρ := HW.out.up hMc1
          have LW1 := load_wyat hR1
          have LWR1 : ∀ R, (loadWhole 34 ⟨m, 0, none⟩).run Tryz.prog (more v0 R) = .ok (wyV ρ) (more v0 R) := fun R => load_wyat (hR1.up ((More.refl _).more R))
          have hS1 := heap_up hMc1 HSY.out
          have ey1 : v0.cell? ⟨w.heap.size + (2 + rs.len), 0, none⟩ = some (.slice (some ⟨b, off, none⟩) P.length vc) := by simp [World.cell?, hS1]
          have ly1 : w.heap.size + (2 + rs.len) < v0.heap.size := (Array.getElem?_eq_some_iff.1 hS1).1
          have lm1 : m < v0.heap.size := (Array.getElem?_eq_some_iff.1 hR1).1
          have LF1 : (loadWhole 43 ⟨b, off + k * 23, none⟩).run Tryz.prog v0 = .ok (sfV f) v0 := HALL.out _ hMc1
          have LFR1 : ∀ R, (loadWhole 43 ⟨b, off + k * 23, none⟩).run Tryz.prog (more v0 R) = .ok (sfV f) (more v0 R) := fun R => HALL.out _ (More.trans hMc1 ((More.refl _).more R))
          have HMc1 := Lib.hid hMc1
          clear hMc1 hR1 hS1
          go_upto_region 12 with fail
          (first | (with_reducible refine wp_more_apartl_m (id := 12) 13 94 [9, 10] [(27, #[.int .i64 0, .int .i64 0, .bool false]), (32, #[.int .i64 0, .int .i64 0, .bool false, .int .i64 0, .int .i64 0, .bool false, .int .i64 0, .int .i64 0, .bool false])] ?_ ?_ ?_ ?_ ?_ ?_ ?_ ?_ ?_ ?_) | (refine wp_more_apartl (id := 12) 13 94 [9, 10] [(27, #[.int .i64 0, .int .i64 0, .bool false]), (32, #[.int .i64 0, .int .i64 0, .bool false, .int .i64 0, .int .i64 0, .bool false, .int .i64 0, .int .i64 0, .bool false])] ?_ ?_ ?_ ?_ ?_ ?_ ?_ ?_ ?_ ?_))
          · intro p hp; simp only [List.mem_cons, List.not_mem_nil, or_false] at hp; rcases hp with rfl | rfl <;> first | exact new_iv | exact new_pl
          · kernel_rfl
          · kernel_rfl
          · kernel_rfl
          · kernel_rfl
          · kernel_rfl
          · kernel_rfl
          · rfl
          · (intro _ _ _ _ _ h; exact h)
          simp only [List.take_succ_cons, List.take_zero, List.drop_succ_cons, List.drop_zero]
          (repeat (first | (refine loose_alloc 20 27 #[.int .i64 0, .int .i64 0, .bool false] new_iv rfl rfl rfl rfl (by simp) ?_) | (refine loose_alloc 20 32 #[.int .i64 0, .int .i64 0, .bool false, .int .i64 0, .int .i64 0, .bool false, .int .i64 0, .int .i64 0, .bool false] new_pl rfl rfl rfl rfl (by simp) ?_) | (refine loose_alloc 21 27 #[.int .i64 0, .int .i64 0, .bool false] new_iv rfl rfl rfl rfl (by simp) ?_) | (refine loose_alloc 21 32 #[.int .i64 0, .int .i64 0, .bool false, .int .i64 0, .int .i64 0, .bool false, .int .i64 0, .int .i64 0, .bool false] new_pl rfl rfl rfl rfl (by simp) ?_) | (refine loose_step rfl (fun K9 hK9 => ?_); go_simp; first | (refine hK9 _ ?_; clear hK9 K9) | (apply Exists.intro; refine ⟨fun _ => ?_, hK9 _ ?_⟩; ((first | (go_at_call 10; with_reducible exact rhit_c f ρ _) | (go_at_call 10; with_reducible exact rhit_c _ _ _) | (go_at_call 10; with_reducible exact rhit_c _ ⟨_, _⟩ _) | (go_at_call 10; with_reducible exact rhit_c ⟨_, _, ⟨_, _, _⟩, ⟨_, _, _⟩, ⟨_, _, _⟩, ⟨_, _, _⟩, ⟨_, _, _⟩, ⟨_, _, _⟩, ⟨_, _, _⟩⟩ ⟨_, _⟩ _) | (go_at_call 10; with_reducible exact rhit_c _ ⟨⟨_, _, _⟩, ⟨_, _, _⟩⟩ _) | (go_at_call 10; with_reducible exact rhit_c ⟨_, _, ⟨_, _, _⟩, ⟨_, _, _⟩, ⟨_, _, _⟩, ⟨_, _, _⟩, ⟨_, _, _⟩, ⟨_, _, _⟩, ⟨_, _, _⟩⟩ ⟨⟨_, _, _⟩, ⟨_, _, _⟩⟩ _))); clear hK9 K9))))
          intro r
          simp only [allFits]
          rintro _ ⟨b2', rfl, hb2', hc2'⟩ _ ⟨b1', rfl, hb1', hc1'⟩ hfar
          have n12 := hfar 11 12 _ _ _ _ 20 21 rfl rfl rfl rfl rfl rfl (by decide)
          simp [Act.put] at n12
          refine two_end2 27 32 3 9 (.tmp 20) (.tmp 76) (.tmp 21) (.tmp 77) b1' b2' _ _ (cellsI ((hitP f ρ).1)) (cellsP ((hitP f ρ).2.1)) rfl rfl rfl rfl rfl rfl rfl rfl rfl rfl size_ivT size_pl rfl rfl (by decide) (by decide) (one_iv _ _ _) (one_pl _) ((More.refl _).more r) hb1' hb2' hc1' rfl hc2' rfl n12 ?_
          clear hfar n12 hb1' hb2' hc1' hc2'
          intro v1 hMv1 h1v1 h2v1
          have hM12 : More v0 v1 := More.trans (by repeat (first | exact More.refl _ | refine More.alloc ?_ _ | refine More.more ?_ _ | refine More.drew ?_ | refine More.drewN ?_ _)) hMv1
          have HMc2 := Lib.hid (More.trans HMc1.out hM12)
          clear hMv1 LW1 LWR1 ey1 ly1 lm1 LF1 LFR1
          obtain ⟨⟨⟨z1, z2, z3⟩, ⟨⟨Px1, Px2, Px3⟩, ⟨Py1, Py2, Py3⟩, ⟨Pz1, Pz2, Pz3⟩⟩, z4⟩, hz⟩ : ∃ d, hitP f ρ = d := ⟨_, rfl⟩
          rw [hz] at h1v0 h2v0 h1v1 h2v1
          dsimp only at h1v0 h2v0 h1v1 h2v1
          have g1 := heap_up hM12 h1v0
          have g2 := heap_up hM12 h2v0
          obtain ⟨q0, q1, q2, q3⟩ := iv_cells g1
          obtain ⟨q4, q5, q6, q7⟩ := iv_cells h1v1
          have LP0 : (loadWhole 32 ⟨_, 0, none⟩).run Tryz.prog v1 = .ok (.agg #[.int .i64 Px1, .int .i64 Px2, .bool Px3, .int .i64 Py1, .int .i64 Py2, .bool Py3, .int .i64 Pz1, .int .i64 Pz2, .bool Pz3]) v1 := load_pl_obj (p := ⟨⟨Px1, Px2, Px3⟩, ⟨Py1, Py2, Py3⟩, ⟨Pz1, Pz2, Pz3⟩⟩) g2
          have LP1 : (loadWhole 32 ⟨_, 0, none⟩).run Tryz.prog v1 = .ok (.agg #[.int .i64 Px1, .int .i64 Px2, .bool Px3, .int .i64 Py1, .int .i64 Py2, .bool Py3, .int .i64 Pz1, .int .i64 Pz2, .bool Pz3]) v1 := load_pl_obj (p := ⟨⟨Px1, Px2, Px3⟩, ⟨Py1, Py2, Py3⟩, ⟨Pz1, Pz2, Pz3⟩⟩) h2v1
          obtain ⟨p0, ⟨p1, p2, p3⟩, ⟨p4, p5, p6⟩, p7, p8, p9⟩ := plat_cells (p := ⟨⟨Px1, Px2, Px3⟩, ⟨Py1, Py2, Py3⟩, ⟨Pz1, Pz2, Pz3⟩⟩) g2
          obtain ⟨r0, ⟨r1, r2, r3⟩, ⟨r4, r5, r6⟩, r7, r8, r9⟩ := plat_cells (p := ⟨⟨Px1, Px2, Px3⟩, ⟨Py1, Py2, Py3⟩, ⟨Pz1, Pz2, Pz3⟩⟩) h2v1
          dsimp only at p1 p2 p3 p4 p5 p6 p7 p8 p9 r1 r2 r3 r4 r5 r6 r7 r8 r9
          rw [hz]
          (try dsimp only)
          clear hM12 h1v0 h2v0 h1v1 h2v1 g1 g2 hz
          go_wp2_with fail
          go_roundw
          case rel => (first | exact ⟨k + 1, by omega, rfl, More.trans HMc2.out (by repeat (first | exact More.refl _ | refine More.alloc ?_ _ | refine More.more ?_ _ | refine More.drew ?_ | refine More.drewN ?_ _))⟩ | ((repeat apply Exists.intro); exact ⟨⟨k + 1, by omega, rfl, More.trans HMc2.out (by repeat (first | exact More.refl _ | refine More.alloc ?_ _ | refine More.more ?_ _ | refine More.drew ?_ | refine More.drewN ?_ _))⟩, rfl⟩))
          case measure => simp [intOf] <;> omega
        · obtain rfl : k = P.length := by omega
          go_wp2_with fail
          go_roundw
          case rel => (first | exact ⟨j + 1, by omega, rfl, More.trans HMX.out (by repeat (first | exact More.refl _ | refine More.alloc ?_ _ | refine More.more ?_ _ | refine More.drew ?_ | refine More.drewN ?_ _))⟩ | ((repeat apply Exists.intro); exact ⟨⟨j + 1, by omega, rfl, More.trans HMX.out (by repeat (first | exact More.refl _ | refine More.alloc ?_ _ | refine More.more ?_ _ | refine More.drew ?_ | refine More.drewN ?_ _))⟩, rfl⟩))
          case measure => simp [intOf] <;> omega
    · have hno : (decide (((j : Nat) : Int) < ((l2.length : Nat) : Int)) && decide (((j : Nat) : Int) < 4)) = false := by
        rw [Bool.and_eq_false_iff]
        by_cases h : j < l2.length
        · exact .inr (decide_eq_false (by omega))
        · exact .inl (decide_eq_false (by omega))
      go_wp2_with (first | (first | (go_at_call 11; (with_reducible refine (known15_c _).mono ?_); rintro e w' ⟨rfl, r, rfl⟩)))
      all_goals
        go_returns
        exact ⟨rfl, (by repeat (first | exact More.refl _ | refine More.alloc ?_ _ | refine More.more ?_ _ | refine More.drew ?_ | refine More.drewN ?_ _))⟩
end Go.Proofs.YtggohceeeggnmaaGreat

