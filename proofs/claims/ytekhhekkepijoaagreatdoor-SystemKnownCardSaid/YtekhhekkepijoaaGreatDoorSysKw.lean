/-
  SystemKnown: the walk.
-/
import Derived.Test.YtekhhekkepijoaaGreatDoorSysKm
import Derived.Test.YtekhhekkepijoaaGreatDoorGl
namespace Go.Proofs.YtekhhekkepijoaaGreatDoor
set_option linter.unusedVariables false
open Go.ChangeShapes Go.WideShapes Go.ChangeAt Go.RowKit

set_option maxHeartbeats 16000000 in
set_option maxRecDepth 100000 in
theorem systemKnown_walk (w : World) (ht : Tab w) : Calls Tryz.prog 3 #[] w fun e w' => e = .returned (.bool true) ∧ More w w' := by
  go_enter Tryz.func3, Tryz.ntmps3
  go_wp2_with fail
  go_at_call 5
  refine Calls.mono (glasses_c (.slice none 0 0) [] _ (.inl ⟨rfl, _, _, rfl⟩) (fun n h => by cases h) (by simp)) ?_
  rintro e u1 ⟨v1, rfl, hM1, hg1⟩
  obtain ⟨ga, ca, rfl, -⟩ := grow_form gls_pos hg1
  have hlen : (glassesG []).length = 2 := rfl
  rw [hlen] at hg1 ⊢
  clear hlen
  have HM1 := Lib.hid hM1
  have HG := Lib.hid hg1
  clear hM1 hg1
  go_wp2_with fail
  go_at_call 6
  refine Calls.mono (readOk_c _ (.slice ga 2 ca) (glassesG []) hLn _ (by decide) (HG.out.up (by repeat (first | exact More.refl _ | refine More.alloc ?_ _ | refine More.more ?_ _ | refine More.drew ?_ | refine More.drewN ?_ _))) (by decide) hRead) ?_
  rintro e u2 ⟨la, lc, rfl, hm2, hF2⟩
  have hM2 : More w u2 := HM1.out.trans (More.trans (by repeat (first | exact More.refl _ | refine More.alloc ?_ _ | refine More.more ?_ _ | refine More.drew ?_ | refine More.drewN ?_ _)) hm2)
  have hK : KnAt u2 (.slice ga 2 ca) (.slice la 3 lc) := ⟨HG.out.up (More.trans (by repeat (first | exact More.refl _ | refine More.alloc ?_ _ | refine More.more ?_ _ | refine More.drew ?_ | refine More.drewN ?_ _)) hm2), hF2, Tab.up hM2 ht⟩
  have HM2 := Lib.hid hM2
  have HK := Lib.hid hK
  clear hM2 hK hm2 hF2 ht HG HM1
  go_wp2_with (first | (go_at_call 7; (refine Calls.mono (known13_c _ (HK.out.up (by repeat (first | exact More.refl _ | refine More.alloc ?_ _ | refine More.more ?_ _ | refine More.drew ?_ | refine More.drewN ?_ _))).tab) ?_); rintro e w' ⟨rfl, r2, rfl⟩))
  go_cut [5, 6] from 28 (fun p e wx => ∃ (m b o c : Nat), p = .pointer (some ⟨m, 0, none⟩) ∧ e = .int .i64 0 ∧ More (u2.alloc (.cells #[.string ⟨#[97]⟩, .int .i64 40, .int .i64 0, .slice la 3 lc] 28)) wx ∧ wx.heap[m]? = some (.cells #[.slice (some ⟨b, o, none⟩) 3 c, .int .i64 327680, .int .i64 327680, .bool false] 38 (0, 0)) ∧ Sfs wx (.slice (some ⟨b, o, none⟩) 3 c) [hSf0, hSf1, hSf2])
  case first => as_aux_lemma =>
    go_region_law (first | (go_simp; go_at_call 9; (refine Calls.mono (line_c 0 _) ?_); rintro en w' ⟨rfl, r7, rfl⟩; rw [hLine]) | (go_simp; go_at_call 8; (refine Calls.mono (kB1 (HK.out.up (by repeat (first | exact More.refl _ | refine More.alloc ?_ _ | refine More.more ?_ _ | refine More.drew ?_ | refine More.drewN ?_ _)))) ?_); rintro e w' ⟨b, o, c, rfl, ⟨r4, rfl⟩, hS4, hN4⟩))
    all_goals
      go_wp2_with fail
      go_meet
      exact ⟨_, _, _, _, rfl, rfl, (by repeat (first | exact More.refl _ | refine More.alloc ?_ _ | refine More.more ?_ _ | refine More.drew ?_ | refine More.drewN ?_ _)), heap_at _ (by repeat (first | exact More.refl _ | refine More.alloc ?_ _ | refine More.more ?_ _ | refine More.drew ?_ | refine More.drewN ?_ _)) (by simp [Nat.add_assoc]), (by (try rw [more_more] at hS4); first | ((refine GRow.up hS4 ?_); (repeat (first | exact More.refl _ | refine More.alloc ?_ _ | refine More.more ?_ _)); done) | exact sfs_swap (by simp) hS4 (hN4.less (by simp)))⟩
  case rest =>
    as_aux_lemma =>
      obtain ⟨m, b, o, c, rfl, rfl, hMB, hm, hS⟩ := hcut
      have hml : m < wc.heap.size := (Array.getElem?_eq_some_iff.1 hm).1
      have k0 : wc.cell? ⟨m, 0, none⟩ = some (.slice (some ⟨b, o, none⟩) 3 c) := by simp [World.cell?, hm]
      have k1 : wc.cell? ⟨m, 1, none⟩ = some (.int .i64 327680) := by simp [World.cell?, hm]
      have k2 : wc.cell? ⟨m, 2, none⟩ = some (.int .i64 327680) := by simp [World.cell?, hm]
      have k3 : wc.cell? ⟨m, 3, none⟩ = some (.bool false) := by simp [World.cell?, hm]
      have hm1 : wc.heap[u2.heap.size]? = some (.cells #[.string ⟨#[97]⟩, .int .i64 40, .int .i64 0, .slice la 3 lc] 28 (0, 0)) := heap_at _ hMB rfl
      have hml1 : u2.heap.size < wc.heap.size := (Array.getElem?_eq_some_iff.1 hm1).1
      have l0 : wc.cell? ⟨u2.heap.size, 0, none⟩ = some (.string ⟨#[97]⟩) := by simp [World.cell?, hm1]
      have l1 : wc.cell? ⟨u2.heap.size, 1, none⟩ = some (.int .i64 40) := by simp [World.cell?, hm1]
      have l2 : wc.cell? ⟨u2.heap.size, 2, none⟩ = some (.int .i64 0) := by simp [World.cell?, hm1]
      have l3 : wc.cell? ⟨u2.heap.size, 3, none⟩ = some (.slice la 3 lc) := by simp [World.cell?, hm1]
      have c20 : wc.cell? ⟨b, o + 20, none⟩ = some (.int .i64 43204) := gcell (k := 0) hS rfl 20 _ rfl
      have c21 : wc.cell? ⟨b, o + 21, none⟩ = some (.int .i64 43210) := gcell (k := 0) hS rfl 21 _ rfl
      have c22 : wc.cell? ⟨b, o + 22, none⟩ = some (.bool false) := gcell (k := 0) hS rfl 22 _ rfl
      have c43 : wc.cell? ⟨b, o + 43, none⟩ = some (.int .i64 65536) := gcell (k := 1) hS rfl 20 _ rfl
      have c44 : wc.cell? ⟨b, o + 44, none⟩ = some (.int .i64 65536) := gcell (k := 1) hS rfl 21 _ rfl
      have c45 : wc.cell? ⟨b, o + 45, none⟩ = some (.bool false) := gcell (k := 1) hS rfl 22 _ rfl
      have c23 : wc.cell? ⟨b, o + 23, none⟩ = some (.bool true) := gcell (k := 1) hS rfl 0 _ rfl
      have c37 : wc.cell? ⟨b, o + 37, none⟩ = some (.int .i64 2686976) := gcell (k := 1) hS rfl 14 _ rfl
      have c38 : wc.cell? ⟨b, o + 38, none⟩ = some (.int .i64 2686976) := gcell (k := 1) hS rfl 15 _ rfl
      have c39 : wc.cell? ⟨b, o + 39, none⟩ = some (.bool false) := gcell (k := 1) hS rfl 16 _ rfl
      have c66 : wc.cell? ⟨b, o + 66, none⟩ = some (.int .i64 99399) := gcell (k := 2) hS rfl 20 _ rfl
      have c67 : wc.cell? ⟨b, o + 67, none⟩ = some (.int .i64 99411) := gcell (k := 2) hS rfl 21 _ rfl
      have c68 : wc.cell? ⟨b, o + 68, none⟩ = some (.bool false) := gcell (k := 2) hS rfl 22 _ rfl
      have c60 : wc.cell? ⟨b, o + 60, none⟩ = some (.int .i64 2818048) := gcell (k := 2) hS rfl 14 _ rfl
      have c61 : wc.cell? ⟨b, o + 61, none⟩ = some (.int .i64 2818048) := gcell (k := 2) hS rfl 15 _ rfl
      have c62 : wc.cell? ⟨b, o + 62, none⟩ = some (.bool false) := gcell (k := 2) hS rfl 16 _ rfl
      have c51 : wc.cell? ⟨b, o + 51, none⟩ = some (.int .i64 131072) := gcell (k := 2) hS rfl 5 _ rfl
      have c52 : wc.cell? ⟨b, o + 52, none⟩ = some (.int .i64 131072) := gcell (k := 2) hS rfl 6 _ rfl
      have c53 : wc.cell? ⟨b, o + 53, none⟩ = some (.bool false) := gcell (k := 2) hS rfl 7 _ rfl
      have c47 : wc.cell? ⟨b, o + 47, none⟩ = some (.bool true) := gcell (k := 2) hS rfl 1 _ rfl
      have c1 : wc.cell? ⟨b, o + 1, none⟩ = some (.bool false) := gcell (k := 0) hS rfl 1 _ rfl
      have c17 : wc.cell? ⟨b, o + 17, none⟩ = some (.int .i64 1638400) := gcell (k := 0) hS rfl 17 _ rfl
      have c18 : wc.cell? ⟨b, o + 18, none⟩ = some (.int .i64 1638400) := gcell (k := 0) hS rfl 18 _ rfl
      have c19 : wc.cell? ⟨b, o + 19, none⟩ = some (.bool false) := gcell (k := 0) hS rfl 19 _ rfl
      have hbl : b < wc.heap.size := World.block_lt_of_cell? wc _ c20
      have hK : KnAt wc (.slice ga 2 ca) (.slice la 3 lc) := HK.out.up (More.trans (by repeat (first | exact More.refl _ | refine More.alloc ?_ _ | refine More.more ?_ _ | refine More.drew ?_ | refine More.drewN ?_ _)) hMB)
      have hM : More w wc := HM2.out.trans (More.trans (by repeat (first | exact More.refl _ | refine More.alloc ?_ _ | refine More.more ?_ _ | refine More.drew ?_ | refine More.drewN ?_ _)) hMB)
      obtain ⟨gb, go, rfl, hgb, hgL, -⟩ := gls_at (k := 0) (g := crownG) hK.gls rfl
      simp only [Nat.zero_mul, Nat.add_zero] at hgL
      have hgL2 : ∀ (r : Rest) (ob : Obj), (loadWhole 46 ⟨gb, go, none⟩).run Tryz.prog ((more wc r).alloc ob) = .ok (glV crownG) ((more wc r).alloc ob) := fun r ob => by rw [alloc_rest']; exact hgL _
      have hgL3 : ∀ (r : Rest) (ob : Obj) (r' : Rest), (loadWhole 46 ⟨gb, go, none⟩).run Tryz.prog (more ((more wc r).alloc ob) r') = .ok (glV crownG) (more ((more wc r).alloc ob) r') := fun r ob r' => by rw [alloc_rest', more_more]; exact hgL _
      have hlast : ∀ W', More wc W' → Calls Tryz.prog 14 #[.agg #[.slice none 0 0, .int .i64 0, .int .i64 0, .bool false]] W' fun e w' => e = .returned (.agg #[.int .i64 0, .int .i64 0, .bool true]) ∧ More W' w' := fun W' hMW => slast_c (.slice none 0 0) [] zeroIv _ (.inl ⟨rfl, rfl⟩) (by decide)
      have hsame : ∀ W', More wc W' → Calls Tryz.prog 15 #[.agg #[.slice (some ⟨b, o, none⟩) 3 c, .int .i64 327680, .int .i64 327680, .bool false], .agg #[.slice (some ⟨b, o, none⟩) 3 c, .int .i64 327680, .int .i64 327680, .bool false]] W' fun e w' => e = .returned (.bool true) ∧ More W' w' := fun W' hMW => ssame_c [hSf0, hSf1, hSf2] ⟨327680, 327680, false⟩ _ _ _ (hS.up hMW) (hS.up hMW) (by decide)
      have hnot : ∀ W', More wc W' → Calls Tryz.prog 15 #[.agg #[.slice (some ⟨b, o, none⟩) 3 c, .int .i64 327680, .int .i64 327680, .bool false], .agg #[.slice none 0 0, .int .i64 0, .int .i64 0, .bool false]] W' fun e w' => e = .returned (.bool false) ∧ More W' w' := fun W' hMW => sameNo_c _ _ ⟨327680, 327680, false⟩ zeroIv _ rfl ⟨_, _, _, rfl⟩ ⟨_, _, _, rfl⟩
      have HLAST := Lib.hid hlast
      have HSAME := Lib.hid hsame
      have HNOT := Lib.hid hnot
      have HM := Lib.hid hM
      have HKN := Lib.hid hK
      clear hm hm1 hMB hS hK hM hlast hsame hnot HK HM2
      go_upto_region 6 with fail
      go_cut [8] from 28 (fun e wx => e = .int .i64 1 ∧ More wc wx)
      case first => as_aux_lemma =>
        go_region_law (first | (go_simp; go_at_call 9; (refine Calls.mono (line_c 0 _) ?_); rintro en w' ⟨rfl, r7, rfl⟩; rw [hLine]) | (go_simp; go_at_call 8; (refine Calls.mono (kB2 (HKN.out.up (by repeat (first | exact More.refl _ | refine More.alloc ?_ _ | refine More.more ?_ _ | refine More.drew ?_ | refine More.drewN ?_ _))) ⟨38508, 38509, false⟩) ?_); rintro e w' ⟨rfl, r4, rfl⟩))
        all_goals
          go_wp2_with fail
          go_meet
          exact ⟨rfl, (by repeat (first | exact More.refl _ | refine More.alloc ?_ _ | refine More.more ?_ _ | refine More.drew ?_ | refine More.drewN ?_ _))⟩
      case rest =>
        as_aux_lemma =>
          obtain ⟨rfl, s6, rfl⟩ := hcut
          go_upto_region 7 with fail
          go_cut [10] from 28 (fun e wx => e = .int .i64 6 ∧ More wc wx)
          case first => as_aux_lemma =>
            go_region_law (first | (go_simp; go_at_call 10; (refine Calls.mono (none_c _) ?_); rintro en w' ⟨rfl, r7, rfl⟩) | (go_simp; go_at_call 8; (refine Calls.mono (kB3 (HKN.out.up (by repeat (first | exact More.refl _ | refine More.alloc ?_ _ | refine More.more ?_ _ | refine More.drew ?_ | refine More.drewN ?_ _)))) ?_); rintro e w' ⟨v, rfl, ⟨r4, rfl⟩, a9, n9, c9, rfl⟩))
            all_goals
              go_wp2_with fail
              go_meet
              exact ⟨rfl, (by repeat (first | exact More.refl _ | refine More.alloc ?_ _ | refine More.more ?_ _ | refine More.drew ?_ | refine More.drewN ?_ _))⟩
          case rest =>
            as_aux_lemma =>
              obtain ⟨rfl, s7, rfl⟩ := hcut
              go_upto_region 8 with fail
              go_cut [12] from 28 (fun e wx => e = .int .i64 1 ∧ More wc wx)
              case first => as_aux_lemma =>
                go_wp2_with (first | (go_at_call 9; (refine Calls.mono (line_c 0 _) ?_); rintro en w' ⟨rfl, r7, rfl⟩; rw [hLine]) | (go_at_call 8; (refine Calls.mono (kB4 (HKN.out.up (by repeat (first | exact More.refl _ | refine More.alloc ?_ _ | refine More.more ?_ _ | refine More.drew ?_ | refine More.drewN ?_ _))) ⟨38508, 38509, false⟩) ?_); rintro e w' ⟨rfl, r4, rfl⟩))
                go_meet
                exact ⟨rfl, (by repeat (first | exact More.refl _ | refine More.alloc ?_ _ | refine More.more ?_ _ | refine More.drew ?_ | refine More.drewN ?_ _))⟩
              case rest =>
                as_aux_lemma =>
                  obtain ⟨rfl, s11, rfl⟩ := hcut
                  go_upto_region 11 with fail
                  go_cut [13] from 61 (fun p wx => ∃ n, p = .pointer (some ⟨n, 0, none⟩) ∧ More wc wx ∧ wx.heap[n]? = some (.cells #[.int .i64 99399, .int .i64 99411, .bool false] 36 (0, 0)))
                  case first => as_aux_lemma =>
                    go_region_law (first | (go_simp; go_at_call 9; (refine Calls.mono (line_c 0 _) ?_); rintro en w' ⟨rfl, r7, rfl⟩; rw [hLine]) | (go_simp; go_at_call 11; (refine Calls.mono (index_c crownG ⟨38508, 38509, false⟩ _) ?_); rintro e w' ⟨rfl, r4, rfl⟩; rw [hIx]))
                    all_goals
                      go_wp2_with fail
                      go_meet
                      exact ⟨_, rfl, (by repeat (first | exact More.refl _ | refine More.alloc ?_ _ | refine More.more ?_ _ | refine More.drew ?_ | refine More.drewN ?_ _)), heap_at _ (by repeat (first | exact More.refl _ | refine More.alloc ?_ _ | refine More.more ?_ _ | refine More.drew ?_ | refine More.drewN ?_ _)) (by simp)⟩
                  case rest =>
                    as_aux_lemma =>
                      obtain ⟨n, rfl, hMC, hn⟩ := hcut
                      have hnl : n < wc.heap.size := (Array.getElem?_eq_some_iff.1 hn).1
                      have g0 : wc.cell? ⟨n, 0, none⟩ = some (.int .i64 99399) := by simp [World.cell?, hn]
                      have g1 : wc.cell? ⟨n, 1, none⟩ = some (.int .i64 99411) := by simp [World.cell?, hn]
                      have g2 : wc.cell? ⟨n, 2, none⟩ = some (.bool false) := by simp [World.cell?, hn]
                      have k0 := cell_up hMC k0
                      have k1 := cell_up hMC k1
                      have k2 := cell_up hMC k2
                      have k3 := cell_up hMC k3
                      have c20 := cell_up hMC c20
                      have c21 := cell_up hMC c21
                      have c22 := cell_up hMC c22
                      have c43 := cell_up hMC c43
                      have c44 := cell_up hMC c44
                      have c45 := cell_up hMC c45
                      have c23 := cell_up hMC c23
                      have c37 := cell_up hMC c37
                      have c38 := cell_up hMC c38
                      have c39 := cell_up hMC c39
                      have c66 := cell_up hMC c66
                      have c67 := cell_up hMC c67
                      have c68 := cell_up hMC c68
                      have c60 := cell_up hMC c60
                      have c61 := cell_up hMC c61
                      have c62 := cell_up hMC c62
                      have c51 := cell_up hMC c51
                      have c52 := cell_up hMC c52
                      have c53 := cell_up hMC c53
                      have c47 := cell_up hMC c47
                      have c1 := cell_up hMC c1
                      have c17 := cell_up hMC c17
                      have c18 := cell_up hMC c18
                      have c19 := cell_up hMC c19
                      have hml : m < wc.heap.size := World.block_lt_of_cell? wc _ k0
                      have hbl : b < wc.heap.size := World.block_lt_of_cell? wc _ c20
                      have HLAST2 := Lib.hid (fun r => HLAST.out (more wc r) (hMC.trans (More.more (More.refl _) r)))
                      have HSAME2 := Lib.hid (fun r => HSAME.out (more wc r) (hMC.trans (More.more (More.refl _) r)))
                      have HNOT2 := Lib.hid (fun r => HNOT.out (more wc r) (hMC.trans (More.more (More.refl _) r)))
                      have HM := Lib.hid (HM.out.trans hMC)
                      clear hn hMC HLAST HSAME HNOT HKN
                      have v1 : ivWhole 1 = ⟨65536, 65536, false⟩ := by kernel_rfl
                      have v2 : ivWhole 41 = ⟨2686976, 2686976, false⟩ := by kernel_rfl
                      have v3 : ivWhole 43 = ⟨2818048, 2818048, false⟩ := by kernel_rfl
                      have v4 : ivWhole 2 = ⟨131072, 131072, false⟩ := by kernel_rfl
                      have v5 : ivWhole 25 = ⟨1638400, 1638400, false⟩ := by kernel_rfl
                      have v6 : ivDiv ⟨65536, 65536, false⟩ ⟨99399, 99411, false⟩ = ⟨43204, 43210, false⟩ := by kernel_rfl
                      have v7 : ivDiv ⟨99399, 99411, false⟩ ⟨65536, 65536, false⟩ = ⟨99399, 99411, false⟩ := by kernel_rfl
                      have v8 : ivNone = ⟨0, 0, true⟩ := rfl
                      have E := eql_self
                      go_upto_region 12 with fail
                      (try simp only [List.append_eq, List.cons_append, List.nil_append])
                      (first | (with_reducible refine wp_more_quick_m (id := 12) ?_ ?_ ?_) | (refine wp_more_quick (id := 12) ?_ ?_ ?_))
                      · kernel_rfl
                      · kernel_rfl
                      (try simp only [List.append_eq, List.cons_append, List.nil_append])
                      (repeat (any_goals (first | go_big_quiet_step ((first | (go_at_call 13; (with_reducible apply quiet_call); with_reducible exact whole_c _ _) | (go_at_call 12; (with_reducible apply quiet_call); with_reducible exact idiv_c _ _ _) | (go_at_call 12; (with_reducible apply quiet_call); with_reducible exact idiv_c ⟨_, _, _⟩ _ _) | (go_at_call 12; (with_reducible apply quiet_call); with_reducible exact idiv_c _ ⟨_, _, _⟩ _) | (go_at_call 12; (with_reducible apply quiet_call); with_reducible exact idiv_c ⟨_, _, _⟩ ⟨_, _, _⟩ _) | (go_at_call 10; (with_reducible apply quiet_call); with_reducible exact none_c _) | (go_at_call 14; (with_reducible apply quiet_call); with_reducible exact HLAST2.out _) | (go_at_call 15; (with_reducible apply quiet_call); with_reducible exact HSAME2.out _) | (go_at_call 15; (with_reducible apply quiet_call); with_reducible exact HNOT2.out _))))))
                      (with_reducible refine wpQuiet_nil ?_)
                      intro r
                      go_wp2_with fail
                      go_returns
                      exact ⟨rfl, HM.out.trans (by repeat (first | exact More.refl _ | refine More.alloc ?_ _ | refine More.more ?_ _ | refine More.drew ?_ | refine More.drewN ?_ _))⟩
end Go.Proofs.YtekhhekkepijoaaGreatDoor

