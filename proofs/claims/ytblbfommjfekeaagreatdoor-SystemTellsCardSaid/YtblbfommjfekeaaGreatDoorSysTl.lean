/-
  SystemTells: the walk.
-/
import Derived.Test.YtblbfommjfekeaaGreatDoorSysLs
import Derived.Test.YtblbfommjfekeaaGreatDoorHandSys
import Derived.Test.YtblbfommjfekeaaGreatDoorAsk2
namespace Go.Proofs.YtblbfommjfekeaaGreatDoor
set_option linter.unusedVariables false
open Go.ChangeShapes Go.WideShapes Go.ChangeAt Go.RowKit

theorem draw_more {a w : World} {R : Rest} {n : Nat} (h : More a (more w R)) : More a (more w (R.draw n)) := by
  rw [← more_drewN]
  exact h.drewN n
/-- What the program builds of a lens that may be, its glasses known or not. -/
theorem buildS_c (x : Ln) (lv g : Value) (G : List Gl) (w : Iv) (W : World) (hok : OkLn x) (h1 : 1 ≤ x.faces.length) (hx : Fcs W lv x.faces) (hg : Gls W g G) (hG : G.length ≤ 1000) (ht : Tab W) :
    Calls Tryz.prog 9 #[lnV x lv, g, ivV w] W fun e w' => ∃ v', e = .returned (.tuple #[syV (bq (x.faces.all (knownF (G.map Gl.name))) x G w).1.wide v', .int .i64 (bq (x.faces.all (knownF (G.map Gl.name))) x G w).2]) ∧ More W w' ∧ Sfs w' v' (bq (x.faces.all (knownF (G.map Gl.name))) x G w).1.rows ∧ NewV W v' := by
  cases hk : x.faces.all (knownF (G.map Gl.name)) with
  | true => exact buildOk_c x lv g G w W hok h1 hk hx hg hG ht
  | false =>
    obtain ⟨t, h⟩ := lens_less (G.map Gl.name) hok hk
    rw [← text_same hok] at h
    exact build_c x lv g G w false W hx hg hG hok.most h1 (name_short hok) fun W1 hM => rightl_no x lv g G W1 ⟨t.line, t.col, 4⟩ (hx.up hM) (hg.up hM) (by omega) (text_short hok) hok.most (Tab.up hM ht) h (by show (4 : Nat) ≠ 0; decide)

set_option maxHeartbeats 8000000 in
set_option maxRecDepth 100000 in
theorem rsame8_c (l : List Sf) (o : Iv) (u v : Value) (W : World) (hu : Sfs W u l) (hv : Sfs W v l) (hl : l.length ≤ 1000000) :
    Calls Tryz.prog 22 #[.agg #[u, .int .i64 o.lo, .int .i64 o.hi, .bool o.no], .agg #[v, .int .i64 o.lo, .int .i64 o.hi, .bool o.no]] W fun e w' => e = .returned (.bool true) ∧ More W w' := by
  obtain ⟨ao, c, rfl, -⟩ := grow_form sfs_pos hu
  obtain ⟨bo, d, rfl, -⟩ := grow_form sfs_pos hv
  obtain ⟨o1, o2, o3⟩ := o
  have N0 := neql_self o1 o2 o3
  have HU := Lib.hid hu
  have HV := Lib.hid hv
  clear hu hv
  dsimp only
  go_enter Tryz.func22, Tryz.ntmps22
  go_wp2_with fail
  go_loopw [5] (fun i wr => ∃ k : Nat, k ≤ l.length ∧ i = .int .i64 k ∧ More ((W.alloc (.cells #[.slice ao l.length c, .int .i64 o1, .int .i64 o2, .bool o3] 38)).alloc (.cells #[.slice bo l.length d, .int .i64 o1, .int .i64 o2, .bool o3] 38)) wr) (fun i _ => l.length - (intOf i).toNat)
  case atStart => exact ⟨0, by omega, rfl, (by repeat (first | exact More.refl _ | refine More.alloc ?_ _ | refine More.more ?_ _ | refine More.drew ?_ | refine More.drewN ?_ _))⟩
  case round =>
    obtain ⟨k, hk, rfl, s, rfl⟩ := hrel
    by_cases hkl : k < l.length
    · obtain ⟨f, hf⟩ : ∃ f, l[k]? = some f := ⟨l[k], List.getElem?_eq_getElem hkl⟩
      obtain ⟨b, o, rfl, hb, hL, -⟩ := sfs_at (w := (W.alloc (.cells #[.slice ao l.length c, .int .i64 o1, .int .i64 o2, .bool o3] 38)).alloc (.cells #[.slice bo l.length d, .int .i64 o1, .int .i64 o2, .bool o3] 38)) (HU.out.up (by repeat (first | exact More.refl _ | refine More.alloc ?_ _ | refine More.more ?_ _ | refine More.drew ?_ | refine More.drewN ?_ _))) hf
      obtain ⟨b', o', rfl, hb', hL', -⟩ := sfs_at (w := (W.alloc (.cells #[.slice (some ⟨b, o, none⟩) l.length c, .int .i64 o1, .int .i64 o2, .bool o3] 38)).alloc (.cells #[.slice bo l.length d, .int .i64 o1, .int .i64 o2, .bool o3] 38)) (HV.out.up (by repeat (first | exact More.refl _ | refine More.alloc ?_ _ | refine More.more ?_ _ | refine More.drew ?_ | refine More.drewN ?_ _))) hf
      clear hf
      obtain ⟨fs, fb, ⟨c1, c2, c3⟩, ⟨k1, k2, k3⟩, ⟨a1, a2, a3⟩, ⟨b1, b2, b3⟩, ⟨p1, p2, p3⟩, ⟨q1, q2, q3⟩, ⟨r1, r2, r3⟩⟩ := f
      have hq := neql_sf ⟨fs, fb, ⟨c1, c2, c3⟩, ⟨k1, k2, k3⟩, ⟨a1, a2, a3⟩, ⟨b1, b2, b3⟩, ⟨p1, p2, p3⟩, ⟨q1, q2, q3⟩, ⟨r1, r2, r3⟩⟩
      have hlt : ((k : Nat) : Int) < ((l.length : Nat) : Int) := by omega
      go_wp2_with fail
      go_region
      all_goals go_wp2_with fail
      all_goals
        go_roundw
        case rel => exact ⟨k + 1, by omega, rfl, (by repeat (first | exact More.refl _ | refine More.alloc ?_ _ | refine More.more ?_ _ | refine More.drew ?_ | refine More.drewN ?_ _))⟩
        case measure => simp [intOf] <;> omega
    · obtain rfl : k = l.length := by omega
      go_wp2_with fail
      go_returns
      exact ⟨rfl, (by repeat (first | exact More.refl _ | refine More.alloc ?_ _ | refine More.more ?_ _ | refine More.drew ?_ | refine More.drewN ?_ _))⟩

set_option maxHeartbeats 8000000 in
theorem rlast8_c (v : Value) (l : List Sf) (o : Iv) (W : World) (hv : Sfs W v l) (hl : l.length ≤ 1000000) :
    Calls Tryz.prog 23 #[.agg #[v, .int .i64 o.lo, .int .i64 o.hi, .bool o.no]] W fun e w' => e = .returned (ivV (lastP l)) ∧ More W w' := by
  obtain ⟨ao, c, rfl, hc⟩ := grow_form sfs_pos hv
  obtain ⟨o1, o2, o3⟩ := o
  have hn : ivNone = ⟨0, 0, true⟩ := rfl
  dsimp only
  by_cases h0 : l.length = 0
  · obtain rfl := List.eq_nil_of_length_eq_zero h0
    clear hc hv
    go_enter Tryz.func23, Tryz.ntmps23
    go_wp2_with (first | (go_at_call 59; (with_reducible refine (rnone_c _).mono ?_); rintro e w' ⟨rfl, r, rfl⟩))
    go_returns
    exact ⟨rfl, (by repeat (first | exact More.refl _ | refine More.alloc ?_ _ | refine More.more ?_ _ | refine More.drew ?_ | refine More.drewN ?_ _))⟩
  · obtain ⟨b, o, rfl, hb, hd⟩ := hc (by omega)
    have hlt : l.length - 1 < l.length := by omega
    obtain ⟨f, hf⟩ : ∃ f, l[l.length - 1]? = some f := ⟨l[l.length - 1]'hlt, List.getElem?_eq_getElem hlt⟩
    clear hlt
    have f1 := hd _ f hf 14 _ rfl
    have f2 := hd _ f hf 15 _ rfl
    have f3 := hd _ f hf 16 _ rfl
    have hlast : lastP l = f.place := by
      unfold lastP
      rw [List.getLast?_eq_getElem?, hf]
    rw [hlast]
    obtain ⟨⟨p1, p2, p3⟩, hp⟩ : ∃ p, f.place = p := ⟨_, rfl⟩
    rw [hp] at f1 f2 f3 ⊢
    dsimp only at f1 f2 f3
    have hq : (((l.length : Nat) : Int) == 0) = false := beq_false_of_ne (by omega)
    have hcast : (((l.length : Nat) : Int) - 1) = ((l.length - 1 : Nat) : Int) := by omega
    have hk : l.length - 1 < l.length := by omega
    obtain ⟨K, hK⟩ : ∃ K, l.length - 1 = K := ⟨_, rfl⟩
    rw [hK] at f1 f2 f3 hcast hk
    have HK := Lib.hid hK
    clear hK hd hc hv hf hlast hp
    go_enter Tryz.func23, Tryz.ntmps23
    go_wp2_with (first | (go_at_call 59; (with_reducible refine (rnone_c _).mono ?_); rintro e w' ⟨rfl, r, rfl⟩))
    go_returns
    exact ⟨rfl, (by repeat (first | exact More.refl _ | refine More.alloc ?_ _ | refine More.more ?_ _ | refine More.drew ?_ | refine More.drewN ?_ _))⟩

set_option maxHeartbeats 16000000 in
set_option maxRecDepth 100000 in
theorem systemTells_walk (w : World) (a0 : Int) (w0 : (Lit.int .i64 a0).wf = true) (s1 : Value) (l1 : List RawF) (i1 : Raws w s1 l1) (k1 : ∀ f ∈ l1, OkRaw f) (m1 : l1.length ≤ 9223372036854775807)
    (s2 : Value) (l2 : List Int) (i2 : Ints w s2 l2) (k2 : ∀ n ∈ l2, -9223372036854775808 ≤ n ∧ n ≤ 9223372036854775807) (m2 : l2.length ≤ 9223372036854775807)
    (a3 : Int) (w3 : (Lit.int .i64 a3).wf = true) (a4 : Int) (w4 : (Lit.int .i64 a4).wf = true) (a5 : Int) (w5 : (Lit.int .i64 a5).wf = true) (a6 : Bool) (ht : Tab w) :
    Calls Tryz.prog 4 #[.int .i64 a0, s1, s2, .int .i64 a3, .int .i64 a4, .int .i64 a5, .bool a6] w fun e w' => e = .returned (.bool true) ∧ More w w' := by
  obtain ⟨b01, b02⟩ := bounds_i64 w0
  obtain ⟨b31, b32⟩ := bounds_i64 w3
  obtain ⟨b41, b42⟩ := bounds_i64 w4
  obtain ⟨b51, b52⟩ := bounds_i64 w5
  have hglen := glassesG_len l2
  have hglen2 : 2 ≤ (glassesG l2).length := by unfold glassesG; simp
  have hlens : ∀ (u : World) (v : Value), More w u → Gls u v (glassesG l2) → Calls Tryz.prog 17 #[.int .i64 a0, s1, v, .int .i64 8] u fun e w' => ∃ lv, e = .returned (lnV (handLn a0 l1 (glassesG l2) 8) lv) ∧ More u w' ∧ Fcs w' lv (handLn a0 l1 (glassesG l2) 8).faces :=
    fun u v hM hg => lens_c a0 s1 v l1 (glassesG l2) 8 u b01 b02 (i1.up hM) k1 m1 hg (by omega) (by decide)
  have hok : OkLn (handLn a0 l1 (glassesG l2) 8) := handLn_ok a0 l1 (glassesG_ok l2) (by omega)
  have hfl : 1 ≤ (handLn a0 l1 (glassesG l2) 8).faces.length := (handFaces_len (glassesG l2) l1 (most := 8) (by omega)).2
  have hmost := hok.most
  obtain ⟨x, hx⟩ : ∃ x, handLn a0 l1 (glassesG l2) 8 = x := ⟨_, rfl⟩
  rw [hx] at hlens hok hfl hmost
  clear hx
  obtain ⟨c0, c1⟩ : 0 ≤ a3 % 40000 ∧ a3 % 40000 < 40000 := ⟨Int.emod_nonneg _ (by omega), Int.emod_lt_of_pos _ (by omega)⟩
  obtain ⟨d0, d1⟩ : 0 ≤ a4 % 300 ∧ a4 % 300 < 300 := ⟨Int.emod_nonneg _ (by omega), Int.emod_lt_of_pos _ (by omega)⟩
  obtain ⟨c, hc⟩ : ∃ b, a3 % 40000 = b := ⟨_, rfl⟩
  obtain ⟨d, hd⟩ : ∃ b, a4 % 300 = b := ⟨_, rfl⟩
  rw [hc] at c0 c1
  rw [hd] at d0 d1
  have hw1 : IntKind.i64.wrap (20000 + c) = 20000 + c := IntWalk.i64_in _ ⟨by omega, by omega⟩
  obtain ⟨⟨x1, x2, x3⟩, hX⟩ : ∃ X, hWide (20000 + c) d = X := ⟨_, rfl⟩
  obtain ⟨⟨y1, y2, y3⟩, hY⟩ : ∃ X, hIv a3 a4 = X := ⟨_, rfl⟩
  have HLENS := Lib.hid hlens
  have HOK := Lib.hid hok
  have HFL := Lib.hid hfl
  have HTAB := Lib.hid ht
  clear hlens hok hfl ht i1 k1 m1
  have E := fun (x1 x2 : Int) (n : Bool) (w : World) => eql_self x1 x2 n w
  obtain ⟨nm, ⟨bc, bs⟩, fcs⟩ := x
  dsimp only at HLENS hmost
  go_enter Tryz.func4, Tryz.ntmps4
  go_wp2_with fail
  go_at_call 6
  refine Calls.mono (glasses_c s2 l2 w i2 k2 m2) ?_
  rintro e u1 ⟨v1, rfl, ⟨r1, rfl⟩, hg1⟩
  clear i2 k2 m2
  have hgc := hg1
  rcases hgc with ⟨-, hnil⟩ | ⟨gb, go, ca, rfl, hcap, -⟩
  · exfalso
    rw [hnil] at hglen2
    simp at hglen2
  obtain ⟨n, hn⟩ : ∃ n, (glassesG l2).length = n := ⟨_, rfl⟩
  rw [hn] at hg1 hglen hglen2 hcap ⊢
  have HG := Lib.hid hg1
  have HGL := Lib.hid hn
  clear hg1 hn
  go_wp2_with fail
  go_at_call 17
  refine Calls.mono (HLENS.out _ _ (by repeat (first | exact More.refl _ | refine More.alloc ?_ _ | refine More.more ?_ _ | refine More.drew ?_ | refine More.drewN ?_ _)) HG.out) ?_
  rintro e u2 ⟨lv, rfl, ⟨r2, rfl⟩, hF2⟩
  obtain ⟨la, lc, rfl, -⟩ := grow_form fcs_pos hF2
  have HF := Lib.hid hF2
  clear hF2
  clear HLENS
  go_upto_if 30 with (fail)
  by_cases hl7 : a5.tmod 7 = 6
  · have hq7 : (a5.tmod 7 == 6) = true := by simpa using hl7
    have hca : ¬ ca = 1 := by omega
    have hgv := HG.out.drop (k := 1) (c' := ca - 1) (by have := HGL.out; omega) (by have := HGL.out; omega)
    rw [HGL.out] at hgv
    have HGV := Lib.hid (fun (W' : World) (h : More (more w r1) W') => hgv.up h)
    clear hgv hl7
    cases a6
    · skip
      have hgl : ((glassesG l2).drop 1).length ≤ 1000 := by have := HGL.out; simp only [List.length_drop]; omega
      have h1 := fun (u : World) (lv g : Value) (hF : Fcs u lv fcs) (hg : Gls u g ((glassesG l2).drop 1)) (hT : Tab u) => buildS_c ⟨nm, ⟨bc, bs⟩, fcs⟩ lv g ((glassesG l2).drop 1) ⟨y1, y2, y3⟩ u HOK.out HFL.out hF hg hgl hT
      have h2 := fun (u : World) (lv g : Value) (hF : Fcs u lv fcs) (hg : Gls u g ((glassesG l2).drop 1)) => buildR_c ⟨nm, ⟨bc, bs⟩, fcs⟩ lv g ((glassesG l2).drop 1) ⟨y1, y2, y3⟩ u HOK.out HFL.out hF hg hgl
      have hqr : ∀ V, (bq V ⟨nm, ⟨bc, bs⟩, fcs⟩ ((glassesG l2).drop 1) ⟨y1, y2, y3⟩).1.rows.length ≤ 1000000 := by
        intro V
        unfold bq
        split
        · split
          · show (stP _ _ _ _).rows.length ≤ 1000000
            rw [stP_len]
            show fcs.length ≤ 1000000
            omega
          · exact Nat.zero_le _
        · exact Nat.zero_le _
      have hPl := hqr (fcs.all (knownF (((glassesG l2).drop 1).map Gl.name)))
      dsimp only at h1 h2
      obtain ⟨⟨⟨P, ⟨o1, o2, o3⟩⟩, EE⟩, hq⟩ : ∃ q, bq (fcs.all (knownF (((glassesG l2).drop 1).map Gl.name))) ⟨nm, ⟨bc, bs⟩, fcs⟩ ((glassesG l2).drop 1) ⟨y1, y2, y3⟩ = q := ⟨_, rfl⟩
      rw [hq] at h1 h2 hPl
      dsimp only at h1 h2 hPl
      have HB1 := Lib.hid h1
      have HB2 := Lib.hid h2
      clear h1 h2 hq hqr hgl
      obtain ⟨⟨z1, z2, z3⟩, hz⟩ : ∃ d, lastP P = d := ⟨_, rfl⟩
      go_upto_region 10 with (first | (go_at_call 9; (refine Calls.mono (HB1.out _ _ _ (HF.out.up (by (try simp only [more_more]); (repeat (first | exact More.refl _ | refine draw_more ?_ | refine plus_more ?_ | refine More.alloc ?_ _ | refine More.more ?_ _ | refine More.drew ?_ | refine More.drewN ?_ _)); done)) (HGV.out _ (by (try simp only [more_more]); (repeat (first | exact More.refl _ | refine draw_more ?_ | refine plus_more ?_ | refine More.alloc ?_ _ | refine More.more ?_ _ | refine More.drew ?_ | refine More.drewN ?_ _)); done)) (Tab.up (by (try simp only [more_more]); (repeat (first | exact More.refl _ | refine draw_more ?_ | refine plus_more ?_ | refine More.alloc ?_ _ | refine More.more ?_ _ | refine More.drew ?_ | refine More.drewN ?_ _)); done) HTAB.out)) ?_); rintro e w' ⟨v3, rfl, ⟨r3, rfl⟩, hS3, hN3⟩; obtain ⟨va, vc, rfl, -⟩ := grow_form sfs_pos hS3; have HS3 := Lib.hid hS3; clear hS3 hN3) | (go_at_call 21; (refine Calls.mono (HB2.out _ _ _ (HF.out.up (by (try simp only [more_more]); (repeat (first | exact More.refl _ | refine draw_more ?_ | refine plus_more ?_ | refine More.alloc ?_ _ | refine More.more ?_ _ | refine More.drew ?_ | refine More.drewN ?_ _)); done)) (HGV.out _ (by (try simp only [more_more]); (repeat (first | exact More.refl _ | refine draw_more ?_ | refine plus_more ?_ | refine More.alloc ?_ _ | refine More.more ?_ _ | refine More.drew ?_ | refine More.drewN ?_ _)); done))) ?_); rintro e w' ⟨v4, rfl, ⟨r4, rfl⟩, hS4, hN4⟩; obtain ⟨wa, wc, rfl, -⟩ := grow_form sfs_pos hS4; have HS4 := Lib.hid hS4; clear hS4 hN4) | (first | (go_at_call 18; (with_reducible refine (hiv_c _ _ (by omega) (by omega) (by omega) (by omega) _).mono ?_); rintro e w' ⟨rfl, r, rfl⟩) | (go_at_call 19; (with_reducible refine (hwide_c _ _ (by omega) (by omega) _).mono ?_); rintro e w' ⟨rfl, r, rfl⟩) | (go_at_call 20; (with_reducible refine (pick_c _ _ (by omega) (by omega) (by omega) (by omega) _).mono ?_); rintro e w' ⟨rfl, rfl⟩)))
      (first | (with_reducible refine wp_more_quick_m (id := 10) ?_ ?_ ?_) | (refine wp_more_quick (id := 10) ?_ ?_ ?_))
      · kernel_rfl
      · kernel_rfl
      (try simp only [List.append_eq, List.cons_append, List.nil_append])
      (repeat (any_goals (first | go_big_quiet_step ((first | (go_at_call 8; (with_reducible apply quiet_call); exact known13_c _ (Tab.up (by (try simp only [more_more]); (repeat (first | exact More.refl _ | refine draw_more ?_ | refine plus_more ?_ | refine More.alloc ?_ _ | refine More.more ?_ _ | refine More.drew ?_ | refine More.drewN ?_ _)); done) HTAB.out)) | (go_at_call 22; (with_reducible apply quiet_call); exact rsame8_c P ⟨o1, o2, o3⟩ _ _ _ (HS3.out.up (by (try simp only [more_more]); (repeat (first | exact More.refl _ | refine draw_more ?_ | refine plus_more ?_ | refine More.alloc ?_ _ | refine More.more ?_ _ | refine More.drew ?_ | refine More.drewN ?_ _)); done)) (HS4.out.up (by (try simp only [more_more]); (repeat (first | exact More.refl _ | refine draw_more ?_ | refine plus_more ?_ | refine More.alloc ?_ _ | refine More.more ?_ _ | refine More.drew ?_ | refine More.drewN ?_ _)); done)) hPl) | (go_at_call 16; (with_reducible apply quiet_call); exact ssame_c P ⟨o1, o2, o3⟩ _ _ _ (HS3.out.up (by (try simp only [more_more]); (repeat (first | exact More.refl _ | refine draw_more ?_ | refine plus_more ?_ | refine More.alloc ?_ _ | refine More.more ?_ _ | refine More.drew ?_ | refine More.drewN ?_ _)); done)) (HS4.out.up (by (try simp only [more_more]); (repeat (first | exact More.refl _ | refine draw_more ?_ | refine plus_more ?_ | refine More.alloc ?_ _ | refine More.more ?_ _ | refine More.drew ?_ | refine More.drewN ?_ _)); done)) hPl) | (go_at_call 15; (with_reducible apply quiet_call); exact slast_c _ P ⟨o1, o2, o3⟩ _ (HS3.out.up (by (try simp only [more_more]); (repeat (first | exact More.refl _ | refine draw_more ?_ | refine plus_more ?_ | refine More.alloc ?_ _ | refine More.more ?_ _ | refine More.drew ?_ | refine More.drewN ?_ _)); done)) hPl) | (go_at_call 23; (with_reducible apply quiet_call); exact rlast8_c _ P ⟨o1, o2, o3⟩ _ (HS4.out.up (by (try simp only [more_more]); (repeat (first | exact More.refl _ | refine draw_more ?_ | refine plus_more ?_ | refine More.alloc ?_ _ | refine More.more ?_ _ | refine More.drew ?_ | refine More.drewN ?_ _)); done)) hPl))))))
      (with_reducible refine wpQuiet_nil ?_)
      intro r
      go_wp2_with fail
      go_returns
      exact ⟨rfl, (by repeat (first | exact More.refl _ | refine More.alloc ?_ _ | refine More.more ?_ _ | refine More.drew ?_ | refine More.drewN ?_ _))⟩
    · skip
      have hgl : ((glassesG l2).drop 1).length ≤ 1000 := by have := HGL.out; simp only [List.length_drop]; omega
      have h1 := fun (u : World) (lv g : Value) (hF : Fcs u lv fcs) (hg : Gls u g ((glassesG l2).drop 1)) (hT : Tab u) => buildS_c ⟨nm, ⟨bc, bs⟩, fcs⟩ lv g ((glassesG l2).drop 1) ⟨x1, x2, x3⟩ u HOK.out HFL.out hF hg hgl hT
      have h2 := fun (u : World) (lv g : Value) (hF : Fcs u lv fcs) (hg : Gls u g ((glassesG l2).drop 1)) => buildR_c ⟨nm, ⟨bc, bs⟩, fcs⟩ lv g ((glassesG l2).drop 1) ⟨x1, x2, x3⟩ u HOK.out HFL.out hF hg hgl
      have hqr : ∀ V, (bq V ⟨nm, ⟨bc, bs⟩, fcs⟩ ((glassesG l2).drop 1) ⟨x1, x2, x3⟩).1.rows.length ≤ 1000000 := by
        intro V
        unfold bq
        split
        · split
          · show (stP _ _ _ _).rows.length ≤ 1000000
            rw [stP_len]
            show fcs.length ≤ 1000000
            omega
          · exact Nat.zero_le _
        · exact Nat.zero_le _
      have hPl := hqr (fcs.all (knownF (((glassesG l2).drop 1).map Gl.name)))
      dsimp only at h1 h2
      obtain ⟨⟨⟨P, ⟨o1, o2, o3⟩⟩, EE⟩, hq⟩ : ∃ q, bq (fcs.all (knownF (((glassesG l2).drop 1).map Gl.name))) ⟨nm, ⟨bc, bs⟩, fcs⟩ ((glassesG l2).drop 1) ⟨x1, x2, x3⟩ = q := ⟨_, rfl⟩
      rw [hq] at h1 h2 hPl
      dsimp only at h1 h2 hPl
      have HB1 := Lib.hid h1
      have HB2 := Lib.hid h2
      clear h1 h2 hq hqr hgl
      obtain ⟨⟨z1, z2, z3⟩, hz⟩ : ∃ d, lastP P = d := ⟨_, rfl⟩
      go_upto_region 10 with (first | (go_at_call 9; (refine Calls.mono (HB1.out _ _ _ (HF.out.up (by (try simp only [more_more]); (repeat (first | exact More.refl _ | refine draw_more ?_ | refine plus_more ?_ | refine More.alloc ?_ _ | refine More.more ?_ _ | refine More.drew ?_ | refine More.drewN ?_ _)); done)) (HGV.out _ (by (try simp only [more_more]); (repeat (first | exact More.refl _ | refine draw_more ?_ | refine plus_more ?_ | refine More.alloc ?_ _ | refine More.more ?_ _ | refine More.drew ?_ | refine More.drewN ?_ _)); done)) (Tab.up (by (try simp only [more_more]); (repeat (first | exact More.refl _ | refine draw_more ?_ | refine plus_more ?_ | refine More.alloc ?_ _ | refine More.more ?_ _ | refine More.drew ?_ | refine More.drewN ?_ _)); done) HTAB.out)) ?_); rintro e w' ⟨v3, rfl, ⟨r3, rfl⟩, hS3, hN3⟩; obtain ⟨va, vc, rfl, -⟩ := grow_form sfs_pos hS3; have HS3 := Lib.hid hS3; clear hS3 hN3) | (go_at_call 21; (refine Calls.mono (HB2.out _ _ _ (HF.out.up (by (try simp only [more_more]); (repeat (first | exact More.refl _ | refine draw_more ?_ | refine plus_more ?_ | refine More.alloc ?_ _ | refine More.more ?_ _ | refine More.drew ?_ | refine More.drewN ?_ _)); done)) (HGV.out _ (by (try simp only [more_more]); (repeat (first | exact More.refl _ | refine draw_more ?_ | refine plus_more ?_ | refine More.alloc ?_ _ | refine More.more ?_ _ | refine More.drew ?_ | refine More.drewN ?_ _)); done))) ?_); rintro e w' ⟨v4, rfl, ⟨r4, rfl⟩, hS4, hN4⟩; obtain ⟨wa, wc, rfl, -⟩ := grow_form sfs_pos hS4; have HS4 := Lib.hid hS4; clear hS4 hN4) | (first | (go_at_call 18; (with_reducible refine (hiv_c _ _ (by omega) (by omega) (by omega) (by omega) _).mono ?_); rintro e w' ⟨rfl, r, rfl⟩) | (go_at_call 19; (with_reducible refine (hwide_c _ _ (by omega) (by omega) _).mono ?_); rintro e w' ⟨rfl, r, rfl⟩) | (go_at_call 20; (with_reducible refine (pick_c _ _ (by omega) (by omega) (by omega) (by omega) _).mono ?_); rintro e w' ⟨rfl, rfl⟩)))
      (first | (with_reducible refine wp_more_quick_m (id := 10) ?_ ?_ ?_) | (refine wp_more_quick (id := 10) ?_ ?_ ?_))
      · kernel_rfl
      · kernel_rfl
      (try simp only [List.append_eq, List.cons_append, List.nil_append])
      (repeat (any_goals (first | go_big_quiet_step ((first | (go_at_call 8; (with_reducible apply quiet_call); exact known13_c _ (Tab.up (by (try simp only [more_more]); (repeat (first | exact More.refl _ | refine draw_more ?_ | refine plus_more ?_ | refine More.alloc ?_ _ | refine More.more ?_ _ | refine More.drew ?_ | refine More.drewN ?_ _)); done) HTAB.out)) | (go_at_call 22; (with_reducible apply quiet_call); exact rsame8_c P ⟨o1, o2, o3⟩ _ _ _ (HS3.out.up (by (try simp only [more_more]); (repeat (first | exact More.refl _ | refine draw_more ?_ | refine plus_more ?_ | refine More.alloc ?_ _ | refine More.more ?_ _ | refine More.drew ?_ | refine More.drewN ?_ _)); done)) (HS4.out.up (by (try simp only [more_more]); (repeat (first | exact More.refl _ | refine draw_more ?_ | refine plus_more ?_ | refine More.alloc ?_ _ | refine More.more ?_ _ | refine More.drew ?_ | refine More.drewN ?_ _)); done)) hPl) | (go_at_call 16; (with_reducible apply quiet_call); exact ssame_c P ⟨o1, o2, o3⟩ _ _ _ (HS3.out.up (by (try simp only [more_more]); (repeat (first | exact More.refl _ | refine draw_more ?_ | refine plus_more ?_ | refine More.alloc ?_ _ | refine More.more ?_ _ | refine More.drew ?_ | refine More.drewN ?_ _)); done)) (HS4.out.up (by (try simp only [more_more]); (repeat (first | exact More.refl _ | refine draw_more ?_ | refine plus_more ?_ | refine More.alloc ?_ _ | refine More.more ?_ _ | refine More.drew ?_ | refine More.drewN ?_ _)); done)) hPl) | (go_at_call 15; (with_reducible apply quiet_call); exact slast_c _ P ⟨o1, o2, o3⟩ _ (HS3.out.up (by (try simp only [more_more]); (repeat (first | exact More.refl _ | refine draw_more ?_ | refine plus_more ?_ | refine More.alloc ?_ _ | refine More.more ?_ _ | refine More.drew ?_ | refine More.drewN ?_ _)); done)) hPl) | (go_at_call 23; (with_reducible apply quiet_call); exact rlast8_c _ P ⟨o1, o2, o3⟩ _ (HS4.out.up (by (try simp only [more_more]); (repeat (first | exact More.refl _ | refine draw_more ?_ | refine plus_more ?_ | refine More.alloc ?_ _ | refine More.more ?_ _ | refine More.drew ?_ | refine More.drewN ?_ _)); done)) hPl))))))
      (with_reducible refine wpQuiet_nil ?_)
      intro r
      go_wp2_with fail
      go_returns
      exact ⟨rfl, (by repeat (first | exact More.refl _ | refine More.alloc ?_ _ | refine More.more ?_ _ | refine More.drew ?_ | refine More.drewN ?_ _))⟩
  · have hq7 : (a5.tmod 7 == 6) = false := by simpa using hl7
    have hgv := HG.out
    have HGV := Lib.hid (fun (W' : World) (h : More (more w r1) W') => hgv.up h)
    clear hgv hl7
    cases a6
    · skip
      have hgl : (glassesG l2).length ≤ 1000 := by have := HGL.out; omega
      have h1 := fun (u : World) (lv g : Value) (hF : Fcs u lv fcs) (hg : Gls u g (glassesG l2)) (hT : Tab u) => buildS_c ⟨nm, ⟨bc, bs⟩, fcs⟩ lv g (glassesG l2) ⟨y1, y2, y3⟩ u HOK.out HFL.out hF hg hgl hT
      have h2 := fun (u : World) (lv g : Value) (hF : Fcs u lv fcs) (hg : Gls u g (glassesG l2)) => buildR_c ⟨nm, ⟨bc, bs⟩, fcs⟩ lv g (glassesG l2) ⟨y1, y2, y3⟩ u HOK.out HFL.out hF hg hgl
      have hqr : ∀ V, (bq V ⟨nm, ⟨bc, bs⟩, fcs⟩ (glassesG l2) ⟨y1, y2, y3⟩).1.rows.length ≤ 1000000 := by
        intro V
        unfold bq
        split
        · split
          · show (stP _ _ _ _).rows.length ≤ 1000000
            rw [stP_len]
            show fcs.length ≤ 1000000
            omega
          · exact Nat.zero_le _
        · exact Nat.zero_le _
      have hPl := hqr (fcs.all (knownF ((glassesG l2).map Gl.name)))
      dsimp only at h1 h2
      obtain ⟨⟨⟨P, ⟨o1, o2, o3⟩⟩, EE⟩, hq⟩ : ∃ q, bq (fcs.all (knownF ((glassesG l2).map Gl.name))) ⟨nm, ⟨bc, bs⟩, fcs⟩ (glassesG l2) ⟨y1, y2, y3⟩ = q := ⟨_, rfl⟩
      rw [hq] at h1 h2 hPl
      dsimp only at h1 h2 hPl
      have HB1 := Lib.hid h1
      have HB2 := Lib.hid h2
      clear h1 h2 hq hqr hgl
      obtain ⟨⟨z1, z2, z3⟩, hz⟩ : ∃ d, lastP P = d := ⟨_, rfl⟩
      go_upto_region 10 with (first | (go_at_call 9; (refine Calls.mono (HB1.out _ _ _ (HF.out.up (by (try simp only [more_more]); (repeat (first | exact More.refl _ | refine draw_more ?_ | refine plus_more ?_ | refine More.alloc ?_ _ | refine More.more ?_ _ | refine More.drew ?_ | refine More.drewN ?_ _)); done)) (HGV.out _ (by (try simp only [more_more]); (repeat (first | exact More.refl _ | refine draw_more ?_ | refine plus_more ?_ | refine More.alloc ?_ _ | refine More.more ?_ _ | refine More.drew ?_ | refine More.drewN ?_ _)); done)) (Tab.up (by (try simp only [more_more]); (repeat (first | exact More.refl _ | refine draw_more ?_ | refine plus_more ?_ | refine More.alloc ?_ _ | refine More.more ?_ _ | refine More.drew ?_ | refine More.drewN ?_ _)); done) HTAB.out)) ?_); rintro e w' ⟨v3, rfl, ⟨r3, rfl⟩, hS3, hN3⟩; obtain ⟨va, vc, rfl, -⟩ := grow_form sfs_pos hS3; have HS3 := Lib.hid hS3; clear hS3 hN3) | (go_at_call 21; (refine Calls.mono (HB2.out _ _ _ (HF.out.up (by (try simp only [more_more]); (repeat (first | exact More.refl _ | refine draw_more ?_ | refine plus_more ?_ | refine More.alloc ?_ _ | refine More.more ?_ _ | refine More.drew ?_ | refine More.drewN ?_ _)); done)) (HGV.out _ (by (try simp only [more_more]); (repeat (first | exact More.refl _ | refine draw_more ?_ | refine plus_more ?_ | refine More.alloc ?_ _ | refine More.more ?_ _ | refine More.drew ?_ | refine More.drewN ?_ _)); done))) ?_); rintro e w' ⟨v4, rfl, ⟨r4, rfl⟩, hS4, hN4⟩; obtain ⟨wa, wc, rfl, -⟩ := grow_form sfs_pos hS4; have HS4 := Lib.hid hS4; clear hS4 hN4) | (first | (go_at_call 18; (with_reducible refine (hiv_c _ _ (by omega) (by omega) (by omega) (by omega) _).mono ?_); rintro e w' ⟨rfl, r, rfl⟩) | (go_at_call 19; (with_reducible refine (hwide_c _ _ (by omega) (by omega) _).mono ?_); rintro e w' ⟨rfl, r, rfl⟩) | (go_at_call 20; (with_reducible refine (pick_c _ _ (by omega) (by omega) (by omega) (by omega) _).mono ?_); rintro e w' ⟨rfl, rfl⟩)))
      (first | (with_reducible refine wp_more_quick_m (id := 10) ?_ ?_ ?_) | (refine wp_more_quick (id := 10) ?_ ?_ ?_))
      · kernel_rfl
      · kernel_rfl
      (try simp only [List.append_eq, List.cons_append, List.nil_append])
      (repeat (any_goals (first | go_big_quiet_step ((first | (go_at_call 8; (with_reducible apply quiet_call); exact known13_c _ (Tab.up (by (try simp only [more_more]); (repeat (first | exact More.refl _ | refine draw_more ?_ | refine plus_more ?_ | refine More.alloc ?_ _ | refine More.more ?_ _ | refine More.drew ?_ | refine More.drewN ?_ _)); done) HTAB.out)) | (go_at_call 22; (with_reducible apply quiet_call); exact rsame8_c P ⟨o1, o2, o3⟩ _ _ _ (HS3.out.up (by (try simp only [more_more]); (repeat (first | exact More.refl _ | refine draw_more ?_ | refine plus_more ?_ | refine More.alloc ?_ _ | refine More.more ?_ _ | refine More.drew ?_ | refine More.drewN ?_ _)); done)) (HS4.out.up (by (try simp only [more_more]); (repeat (first | exact More.refl _ | refine draw_more ?_ | refine plus_more ?_ | refine More.alloc ?_ _ | refine More.more ?_ _ | refine More.drew ?_ | refine More.drewN ?_ _)); done)) hPl) | (go_at_call 16; (with_reducible apply quiet_call); exact ssame_c P ⟨o1, o2, o3⟩ _ _ _ (HS3.out.up (by (try simp only [more_more]); (repeat (first | exact More.refl _ | refine draw_more ?_ | refine plus_more ?_ | refine More.alloc ?_ _ | refine More.more ?_ _ | refine More.drew ?_ | refine More.drewN ?_ _)); done)) (HS4.out.up (by (try simp only [more_more]); (repeat (first | exact More.refl _ | refine draw_more ?_ | refine plus_more ?_ | refine More.alloc ?_ _ | refine More.more ?_ _ | refine More.drew ?_ | refine More.drewN ?_ _)); done)) hPl) | (go_at_call 15; (with_reducible apply quiet_call); exact slast_c _ P ⟨o1, o2, o3⟩ _ (HS3.out.up (by (try simp only [more_more]); (repeat (first | exact More.refl _ | refine draw_more ?_ | refine plus_more ?_ | refine More.alloc ?_ _ | refine More.more ?_ _ | refine More.drew ?_ | refine More.drewN ?_ _)); done)) hPl) | (go_at_call 23; (with_reducible apply quiet_call); exact rlast8_c _ P ⟨o1, o2, o3⟩ _ (HS4.out.up (by (try simp only [more_more]); (repeat (first | exact More.refl _ | refine draw_more ?_ | refine plus_more ?_ | refine More.alloc ?_ _ | refine More.more ?_ _ | refine More.drew ?_ | refine More.drewN ?_ _)); done)) hPl))))))
      (with_reducible refine wpQuiet_nil ?_)
      intro r
      go_wp2_with fail
      go_returns
      exact ⟨rfl, (by repeat (first | exact More.refl _ | refine More.alloc ?_ _ | refine More.more ?_ _ | refine More.drew ?_ | refine More.drewN ?_ _))⟩
    · skip
      have hgl : (glassesG l2).length ≤ 1000 := by have := HGL.out; omega
      have h1 := fun (u : World) (lv g : Value) (hF : Fcs u lv fcs) (hg : Gls u g (glassesG l2)) (hT : Tab u) => buildS_c ⟨nm, ⟨bc, bs⟩, fcs⟩ lv g (glassesG l2) ⟨x1, x2, x3⟩ u HOK.out HFL.out hF hg hgl hT
      have h2 := fun (u : World) (lv g : Value) (hF : Fcs u lv fcs) (hg : Gls u g (glassesG l2)) => buildR_c ⟨nm, ⟨bc, bs⟩, fcs⟩ lv g (glassesG l2) ⟨x1, x2, x3⟩ u HOK.out HFL.out hF hg hgl
      have hqr : ∀ V, (bq V ⟨nm, ⟨bc, bs⟩, fcs⟩ (glassesG l2) ⟨x1, x2, x3⟩).1.rows.length ≤ 1000000 := by
        intro V
        unfold bq
        split
        · split
          · show (stP _ _ _ _).rows.length ≤ 1000000
            rw [stP_len]
            show fcs.length ≤ 1000000
            omega
          · exact Nat.zero_le _
        · exact Nat.zero_le _
      have hPl := hqr (fcs.all (knownF ((glassesG l2).map Gl.name)))
      dsimp only at h1 h2
      obtain ⟨⟨⟨P, ⟨o1, o2, o3⟩⟩, EE⟩, hq⟩ : ∃ q, bq (fcs.all (knownF ((glassesG l2).map Gl.name))) ⟨nm, ⟨bc, bs⟩, fcs⟩ (glassesG l2) ⟨x1, x2, x3⟩ = q := ⟨_, rfl⟩
      rw [hq] at h1 h2 hPl
      dsimp only at h1 h2 hPl
      have HB1 := Lib.hid h1
      have HB2 := Lib.hid h2
      clear h1 h2 hq hqr hgl
      obtain ⟨⟨z1, z2, z3⟩, hz⟩ : ∃ d, lastP P = d := ⟨_, rfl⟩
      go_upto_region 10 with (first | (go_at_call 9; (refine Calls.mono (HB1.out _ _ _ (HF.out.up (by (try simp only [more_more]); (repeat (first | exact More.refl _ | refine draw_more ?_ | refine plus_more ?_ | refine More.alloc ?_ _ | refine More.more ?_ _ | refine More.drew ?_ | refine More.drewN ?_ _)); done)) (HGV.out _ (by (try simp only [more_more]); (repeat (first | exact More.refl _ | refine draw_more ?_ | refine plus_more ?_ | refine More.alloc ?_ _ | refine More.more ?_ _ | refine More.drew ?_ | refine More.drewN ?_ _)); done)) (Tab.up (by (try simp only [more_more]); (repeat (first | exact More.refl _ | refine draw_more ?_ | refine plus_more ?_ | refine More.alloc ?_ _ | refine More.more ?_ _ | refine More.drew ?_ | refine More.drewN ?_ _)); done) HTAB.out)) ?_); rintro e w' ⟨v3, rfl, ⟨r3, rfl⟩, hS3, hN3⟩; obtain ⟨va, vc, rfl, -⟩ := grow_form sfs_pos hS3; have HS3 := Lib.hid hS3; clear hS3 hN3) | (go_at_call 21; (refine Calls.mono (HB2.out _ _ _ (HF.out.up (by (try simp only [more_more]); (repeat (first | exact More.refl _ | refine draw_more ?_ | refine plus_more ?_ | refine More.alloc ?_ _ | refine More.more ?_ _ | refine More.drew ?_ | refine More.drewN ?_ _)); done)) (HGV.out _ (by (try simp only [more_more]); (repeat (first | exact More.refl _ | refine draw_more ?_ | refine plus_more ?_ | refine More.alloc ?_ _ | refine More.more ?_ _ | refine More.drew ?_ | refine More.drewN ?_ _)); done))) ?_); rintro e w' ⟨v4, rfl, ⟨r4, rfl⟩, hS4, hN4⟩; obtain ⟨wa, wc, rfl, -⟩ := grow_form sfs_pos hS4; have HS4 := Lib.hid hS4; clear hS4 hN4) | (first | (go_at_call 18; (with_reducible refine (hiv_c _ _ (by omega) (by omega) (by omega) (by omega) _).mono ?_); rintro e w' ⟨rfl, r, rfl⟩) | (go_at_call 19; (with_reducible refine (hwide_c _ _ (by omega) (by omega) _).mono ?_); rintro e w' ⟨rfl, r, rfl⟩) | (go_at_call 20; (with_reducible refine (pick_c _ _ (by omega) (by omega) (by omega) (by omega) _).mono ?_); rintro e w' ⟨rfl, rfl⟩)))
      (first | (with_reducible refine wp_more_quick_m (id := 10) ?_ ?_ ?_) | (refine wp_more_quick (id := 10) ?_ ?_ ?_))
      · kernel_rfl
      · kernel_rfl
      (try simp only [List.append_eq, List.cons_append, List.nil_append])
      (repeat (any_goals (first | go_big_quiet_step ((first | (go_at_call 8; (with_reducible apply quiet_call); exact known13_c _ (Tab.up (by (try simp only [more_more]); (repeat (first | exact More.refl _ | refine draw_more ?_ | refine plus_more ?_ | refine More.alloc ?_ _ | refine More.more ?_ _ | refine More.drew ?_ | refine More.drewN ?_ _)); done) HTAB.out)) | (go_at_call 22; (with_reducible apply quiet_call); exact rsame8_c P ⟨o1, o2, o3⟩ _ _ _ (HS3.out.up (by (try simp only [more_more]); (repeat (first | exact More.refl _ | refine draw_more ?_ | refine plus_more ?_ | refine More.alloc ?_ _ | refine More.more ?_ _ | refine More.drew ?_ | refine More.drewN ?_ _)); done)) (HS4.out.up (by (try simp only [more_more]); (repeat (first | exact More.refl _ | refine draw_more ?_ | refine plus_more ?_ | refine More.alloc ?_ _ | refine More.more ?_ _ | refine More.drew ?_ | refine More.drewN ?_ _)); done)) hPl) | (go_at_call 16; (with_reducible apply quiet_call); exact ssame_c P ⟨o1, o2, o3⟩ _ _ _ (HS3.out.up (by (try simp only [more_more]); (repeat (first | exact More.refl _ | refine draw_more ?_ | refine plus_more ?_ | refine More.alloc ?_ _ | refine More.more ?_ _ | refine More.drew ?_ | refine More.drewN ?_ _)); done)) (HS4.out.up (by (try simp only [more_more]); (repeat (first | exact More.refl _ | refine draw_more ?_ | refine plus_more ?_ | refine More.alloc ?_ _ | refine More.more ?_ _ | refine More.drew ?_ | refine More.drewN ?_ _)); done)) hPl) | (go_at_call 15; (with_reducible apply quiet_call); exact slast_c _ P ⟨o1, o2, o3⟩ _ (HS3.out.up (by (try simp only [more_more]); (repeat (first | exact More.refl _ | refine draw_more ?_ | refine plus_more ?_ | refine More.alloc ?_ _ | refine More.more ?_ _ | refine More.drew ?_ | refine More.drewN ?_ _)); done)) hPl) | (go_at_call 23; (with_reducible apply quiet_call); exact rlast8_c _ P ⟨o1, o2, o3⟩ _ (HS4.out.up (by (try simp only [more_more]); (repeat (first | exact More.refl _ | refine draw_more ?_ | refine plus_more ?_ | refine More.alloc ?_ _ | refine More.more ?_ _ | refine More.drew ?_ | refine More.drewN ?_ _)); done)) hPl))))))
      (with_reducible refine wpQuiet_nil ?_)
      intro r
      go_wp2_with fail
      go_returns
      exact ⟨rfl, (by repeat (first | exact More.refl _ | refine More.alloc ?_ _ | refine More.more ?_ _ | refine More.drew ?_ | refine More.drewN ?_ _))⟩
end Go.Proofs.YtblbfommjfekeaaGreatDoor

