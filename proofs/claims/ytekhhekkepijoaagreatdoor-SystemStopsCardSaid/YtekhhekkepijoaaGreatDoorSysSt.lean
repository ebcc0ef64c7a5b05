/-
  SystemStops: the walk.
-/
import Derived.Test.YtekhhekkepijoaaGreatDoorSysLs
import Derived.Test.YtekhhekkepijoaaGreatDoorSysStAll
import Derived.Test.YtekhhekkepijoaaGreatDoorTwoRows
import Derived.Test.YtekhhekkepijoaaGreatDoorGr5
import Derived.Test.YtekhhekkepijoaaGreatDoorGf
import Derived.Deep.RegionLaw
import Derived.Deep.Cut
namespace Go.Proofs.YtekhhekkepijoaaGreatDoor
set_option linter.unusedVariables false
open Go.ChangeShapes Go.WideShapes Go.ChangeAt Go.RowKit

theorem und_in : Tryz.prog.underlying 53 = some (.slice 3) := by kernel_rfl
theorem info_in : (Tryz.prog.info? 3).map (fun i => (i.zero, i.size, i.bytes)) = some (some (.int .i64 0), 1, 8) := by kernel_rfl
def cellN (n : Nat) : List Value := [.int .i64 (n : Int)]
theorem cellN_len (n : Nat) : (cellN n).length = 1 := rfl
theorem cellN_one (n : Nat) : ∀ u ∈ cellN n, u.oneCell' = true := by
  intro u hu
  simp only [cellN, List.mem_cons, List.not_mem_nil, or_false] at hu
  subst hu
  rfl
theorem hand_most (G : List Gl) (l : List RawF) : (handFaces G l 5).length ≤ 5 := by
  unfold handFaces
  split
  · simp
  · rw [handFs_len]
    omega
theorem ys_put {at_ : List Int} {l : List Fc} {k : Nat} {f : Fc} (hf : l[k]? = some f) (hp : putQ at_ k = true) : ysF at_ l (k + 1) = (ysF at_ l k ++ [stopF f]) ++ [f] := by
  rw [ysF_succ at_ hf]
  unfold aheadF
  rw [if_pos hp]
  simp
theorem ys_not {at_ : List Int} {l : List Fc} {k : Nat} {f : Fc} (hf : l[k]? = some f) (hp : putQ at_ k = false) : ysF at_ l (k + 1) = ysF at_ l k ++ [f] := by
  rw [ysF_succ at_ hf]
  unfold aheadF
  rw [if_neg (by rw [hp]; simp)]
  rfl
theorem fa_put {at_ : List Int} {l : List Fc} {k : Nat} {f : Fc} (hf : l[k]? = some f) (hp : putQ at_ k = true) : facesAt at_ l (k + 1) = facesAt at_ l k ++ [(ysF at_ l k).length + 1] := by
  have eg : l.getD k ⟨true, D0, D0, D0, D0, D0, D0, []⟩ = f := by rw [List.getD_eq_getElem?_getD, hf]; rfl
  unfold facesAt
  rw [List.range_succ, List.map_append]
  unfold faceAt
  simp only [List.map_cons, List.map_nil]
  rw [eg]
  unfold aheadF
  rw [if_pos hp]
  simp
theorem fa_not {at_ : List Int} {l : List Fc} {k : Nat} {f : Fc} (hf : l[k]? = some f) (hp : putQ at_ k = false) : facesAt at_ l (k + 1) = facesAt at_ l k ++ [(ysF at_ l k).length] := by
  have eg : l.getD k ⟨true, D0, D0, D0, D0, D0, D0, []⟩ = f := by rw [List.getD_eq_getElem?_getD, hf]; rfl
  unfold facesAt
  rw [List.range_succ, List.map_append]
  unfold faceAt
  simp only [List.map_cons, List.map_nil]
  rw [eg]
  unfold aheadF
  rw [if_neg (by rw [hp]; simp)]
  simp
theorem stLine : lineP 0 = ⟨38508, 38509, false⟩ := by kernel_rfl

set_option maxHeartbeats 16000000 in
set_option maxRecDepth 100000 in
theorem systemStops_walk (w : World) (a0 : Int) (w0 : (Lit.int .i64 a0).wf = true) (s1 : Value) (l1 : List RawF) (i1 : Raws w s1 l1) (k1 : ∀ f ∈ l1, OkRaw f) (m1 : l1.length ≤ 9223372036854775807)
    (s2 : Value) (l2 : List Int) (i2 : Ints w s2 l2) (k2 : ∀ n ∈ l2, -9223372036854775808 ≤ n ∧ n ≤ 9223372036854775807) (m2 : l2.length ≤ 9223372036854775807) (ht : Tab w) :
    Calls Tryz.prog 4 #[.int .i64 a0, s1, s2] w fun e w' => e = .returned (.bool true) ∧ More w w' := by
  obtain ⟨b01, b02⟩ := bounds_i64 w0
  obtain ⟨sa, sc, rfl, hcell⟩ := ints_form i2
  obtain ⟨j0, hi, hz0, hz1, hz2⟩ := info_parts info_fs
  obtain ⟨j1, hi', hy0, hy1, hy2⟩ := info_parts info_in
  have hlens : ∀ (u : World) (v : Value), More w u → Gls u v (glassesG []) → Calls Tryz.prog 16 #[.int .i64 a0, s1, v, .int .i64 5] u fun e w' => ∃ lv, e = .returned (lnV (handLn a0 l1 (glassesG []) 5) lv) ∧ More u w' ∧ Fcs w' lv (handLn a0 l1 (glassesG []) 5).faces :=
    fun u v hM hg => lens_c a0 s1 v l1 (glassesG []) 5 u b01 b02 (i1.up hM) k1 m1 hg (by decide) (by decide)
  have hok : OkLn (handLn a0 l1 (glassesG []) 5) := handLn_ok a0 l1 (glassesG_ok []) (by omega)
  have hknown := hand_all a0 l1 [] 5
  have hfl : 1 ≤ (handLn a0 l1 (glassesG []) 5).faces.length := (handFaces_len (glassesG []) l1 (most := 5) (by omega)).2
  have h5 : (handLn a0 l1 (glassesG []) 5).faces.length ≤ 5 := hand_most (glassesG []) l1
  have hthick : ∀ f ∈ (handLn a0 l1 (glassesG []) 5).faces, ThickOk f := hand_thick (glassesG []) l1 5
  have hback : Near (decIv (handLn a0 l1 (glassesG []) 5).back) 5242880 := near_back _ (mod_bd a0 (show (0 : Int) < 600 by omega)).1 (mod_bd a0 (show (0 : Int) < 600 by omega)).2
  obtain ⟨x, hx⟩ : ∃ x, handLn a0 l1 (glassesG []) 5 = x := ⟨_, rfl⟩
  rw [hx] at hlens hok hknown hfl h5 hthick hback
  clear hx
  have hb1 : ∀ (u : World) (lv g : Value), Fcs u lv x.faces → Gls u g (glassesG []) → Tab u → Calls Tryz.prog 8 #[lnV x lv, g, ivV ⟨38508, 38509, false⟩] u fun e w' => ∃ v', e = .returned (.tuple #[syV (bq true x (glassesG []) ⟨38508, 38509, false⟩).1.wide v', .int .i64 (bq true x (glassesG []) ⟨38508, 38509, false⟩).2]) ∧ More u w' ∧ Sfs w' v' (bq true x (glassesG []) ⟨38508, 38509, false⟩).1.rows ∧ NewV u v' :=
    fun u lv g hF hg hT => buildOk_c x lv g (glassesG []) ⟨38508, 38509, false⟩ u hok hfl hknown hF hg (by decide) hT
  have hylen := ysF_len l2 x.faces x.faces.length
  have hb2 : ∀ (u : World) (lv g : Value), Fcs u lv (ysF l2 x.faces x.faces.length) → Gls u g (glassesG []) → Tab u → Calls Tryz.prog 8 #[lnV (stLn l2 x) lv, g, ivV ⟨38508, 38509, false⟩] u fun e w' => ∃ v', e = .returned (.tuple #[syV (bq true (stLn l2 x) (glassesG []) ⟨38508, 38509, false⟩).1.wide v', .int .i64 (bq true (stLn l2 x) (glassesG []) ⟨38508, 38509, false⟩).2]) ∧ More u w' ∧ Sfs w' v' (bq true (stLn l2 x) (glassesG []) ⟨38508, 38509, false⟩).1.rows ∧ NewV u v' :=
    fun u lv g hF hg hT => buildOk_c (stLn l2 x) lv g (glassesG []) ⟨38508, 38509, false⟩ u (stLn_ok l2 hok (by omega)) (Nat.le_trans hfl hylen.1) (stLn_known l2 hknown) hF hg (by decide) hT
  obtain ⟨hE, hE06, hall⟩ := stops_bq (glassesG []) ⟨38508, 38509, false⟩ l2 hback hthick (by omega) hfl
  obtain ⟨⟨⟨P1, ⟨o1, o2, o3⟩⟩, E1⟩, hq1⟩ : ∃ q, bq true x (glassesG []) ⟨38508, 38509, false⟩ = q := ⟨_, rfl⟩
  obtain ⟨⟨⟨P2, ⟨n1, n2, n3⟩⟩, E2⟩, hq2⟩ : ∃ q, bq true (stLn l2 x) (glassesG []) ⟨38508, 38509, false⟩ = q := ⟨_, rfl⟩
  rw [hq1] at hb1 hE hE06 hall
  rw [hq2] at hb2 hE hall
  dsimp only at hb1 hb2 hE hE06 hall
  have hE := hE.symm
  subst hE
  have HLENS := Lib.hid hlens
  have HB1 := Lib.hid hb1
  have HB2 := Lib.hid hb2
  have HALL := Lib.hid hall
  have HYL := Lib.hid hylen
  have HTAB := Lib.hid ht
  have HC := Lib.hid hcell
  have HK2 := Lib.hid k2
  clear hlens hb1 hb2 hall hylen ht hcell k2 i2 hok hknown hthick hback i1 k1 m1 hq1 hq2
  obtain ⟨nm, ⟨bc, bs⟩, fcs⟩ := x
  dsimp only [stLn] at HLENS HB1 HB2 HALL HYL hfl h5
  go_enter Tryz.func4, Tryz.ntmps4
  go_wp2_with fail
  go_at_call 5
  refine Calls.mono (glasses_c (.slice none 0 0) [] _ (.inl ⟨rfl, _, _, rfl⟩) (fun n h => by cases h) (by simp)) ?_
  rintro e u1 ⟨v1, rfl, hM1, hg1⟩
  obtain ⟨ga, ca, rfl, -⟩ := grow_form gls_pos hg1
  have hlen : (glassesG []).length = 2 := rfl
  rw [hlen] at hg1 ⊢
  clear hlen
  have HM1 := Lib.hid hM1
  have HG := Lib.hid hg1
  clear hM1 hg1
  go_wp2_with fail
  go_at_call 16
  refine Calls.mono (HLENS.out _ _ HM1.out HG.out) ?_
  rintro e u2 ⟨lv, rfl, hM2, hF2⟩
  obtain ⟨la, lc, rfl, hla⟩ := grow_form fcs_pos hF2
  obtain ⟨lb, lo, rfl, -, -⟩ := hla (by omega)
  clear hla
  have hB : ∀ W', More u2 W' → Gls W' (.slice ga 2 ca) (glassesG []) ∧ Fcs W' (.slice (some ⟨lb, lo, none⟩) fcs.length lc) fcs ∧ Tab W' := fun W' h => ⟨HG.out.up (hM2.trans h), hF2.up h, Tab.up (HM1.out.trans (hM2.trans h)) HTAB.out⟩
  have hcell : 0 < l2.length → ∃ b o, sa = some ⟨b, o, none⟩ ∧ ∀ k, k < l2.length → b < u2.heap.size ∧ u2.cell? ⟨b, o + k, none⟩ = some (.int .i64 (l2.getD k 0)) := by
    intro h
    obtain ⟨b, o, h1, h2⟩ := HC.out h
    exact ⟨b, o, h1, fun k hk => by
      have := cell_up (HM1.out.trans hM2) (h2 k hk).2
      exact ⟨World.block_lt_of_cell? u2 _ this, this⟩⟩
  have HC2 := Lib.hid hcell
  have HB := Lib.hid hB
  have HM2 := Lib.hid (HM1.out.trans hM2)
  clear hB hM2 hF2 hcell HC HG HM1 HLENS HTAB
  go_wp2_with fail
  go_loopw [10, 29] (fun v i wr => ∃ (k : Nat) (ao : Option Addr) (n c : Nat) (fv : Value), fv = v ∧ k ≤ fcs.length ∧ i = .int .i64 k ∧ n = (ysF l2 fcs k).length ∧ ∃ s, wr = more ((u2.alloc (.cells #[.string (bsOf nm), .int .i64 bc, .int .i64 bs, .slice (some ⟨lb, lo, none⟩) fcs.length lc] 28)).alloc (.cells #[.string (bsOf nm), .int .i64 bc, .int .i64 bs, .slice ao n c] 28)) s ∧ OwnS (u2.heap.size + 2) s 56 14 (.slice ao n c) n (flatC cellsF (ysF l2 fcs k)) ∧ OwnS (u2.heap.size + 2) s 3 1 v k (flatC cellN (facesAt l2 fcs k)) ∧ Off2 (.slice ao n c) v) (fun _ i _ => fcs.length - (intOf i).toNat)
  case atStart => exact ⟨0, none, 0, 0, _, rfl, by omega, rfl, rfl, ⟨#[], _⟩, (more_self _).symm, OwnS.nil _ _ _ _, OwnS.nil _ _ _ _, .inl rfl⟩
  case round =>
    obtain ⟨k, ao, n, c, fv, rfl, hk, rfl, hn, s, rfl, hS1, hS2, hoff⟩ := hrel
    have hyk := ysF_len l2 fcs k
    rw [← hn] at hyk
    obtain ⟨hyk1, hyk2⟩ := hyk
    have x3 : (n + 1 ≤ maxLen) ∧ (n + 1) * 120 ≤ 140737488355328 := by simp only [maxLen]; omega
    have y3 : (n + 1 + 1 ≤ maxLen) ∧ (n + 1 + 1) * 120 ≤ 140737488355328 := by simp only [maxLen]; omega
    have z3 : (k + 1 ≤ maxLen) ∧ (k + 1) * 8 ≤ 140737488355328 := by simp only [maxLen]; omega
    obtain ⟨x3, x4⟩ := x3
    obtain ⟨y3, y4⟩ := y3
    obtain ⟨z3, z4⟩ := z3
    have HN := Lib.hid hn
    have HS1 := Lib.hid hS1
    have HS2 := Lib.hid hS2
    have HOF := Lib.hid hoff
    clear hn hS1 hS2 hoff
    by_cases hkl : k < fcs.length
    · obtain ⟨f, hf⟩ : ∃ f, fcs[k]? = some f := ⟨fcs[k], List.getElem?_eq_getElem hkl⟩
      obtain ⟨b, off, he, hb, hL, -⟩ := fcs_at (HB.out (((u2.alloc (.cells #[.string (bsOf nm), .int .i64 bc, .int .i64 bs, .slice (some ⟨lb, lo, none⟩) fcs.length lc] 28)).alloc (.cells #[.string (bsOf nm), .int .i64 bc, .int .i64 bs, .slice ao n c] 28))) (by repeat (first | exact More.refl _ | refine More.alloc ?_ _ | refine More.more ?_ _ | refine More.drew ?_ | refine More.drewN ?_ _))).2.1 hf
      obtain ⟨rfl, rfl⟩ : lb = b ∧ lo = off := by simpa using he
      clear he
      have HF := Lib.hid hf
      clear hf
      obtain ⟨fs, ⟨fr1, fr2⟩, ⟨fa1, fa2⟩, ⟨ft1, ft2⟩, ⟨fk1, fk2⟩, ⟨fp1, fp2⟩, ⟨fq1, fq2⟩, fg⟩ := f
      have x1 : ((k : Nat) : Int) < ((fcs.length : Nat) : Int) := by omega
      go_upto_region 8 with fail
      go_cut [11, 12] from 30 to 66 (fun i p wx => i = .int .i64 k ∧ ∃ m, p = .pointer (some ⟨m, 0, none⟩) ∧ OwnK ((u2.alloc (.cells #[.string (bsOf nm), .int .i64 bc, .int .i64 bs, .slice (some ⟨lb, lo, none⟩) fcs.length lc] 28)).alloc (.cells #[.string (bsOf nm), .int .i64 bc, .int .i64 bs, .slice ao n c] 28)) wx (u2.heap.size + 2) 56 14 (.slice ao n c) n (flatC cellsF (ysF l2 fcs k)) 3 1 fv k (flatC cellN (facesAt l2 fcs k)) m (.cells (cellsF ⟨fs, ⟨fr1, fr2⟩, ⟨fa1, fa2⟩, ⟨ft1, ft2⟩, ⟨fk1, fk2⟩, ⟨fp1, fp2⟩, ⟨fq1, fq2⟩, fg⟩).toArray 56))
      case first =>
        go_wp2_with fail
        go_meet
        exact ⟨rfl, _, rfl, ownK_laid (X := ((u2.alloc (.cells #[.string (bsOf nm), .int .i64 bc, .int .i64 bs, .slice (some ⟨lb, lo, none⟩) fcs.length lc] 28)).alloc (.cells #[.string (bsOf nm), .int .i64 bc, .int .i64 bs, .slice ao n c] 28))) (s := s) (ob := (.cells (cellsF ⟨fs, ⟨fr1, fr2⟩, ⟨fa1, fa2⟩, ⟨ft1, ft2⟩, ⟨fk1, fk2⟩, ⟨fp1, fp2⟩, ⟨fq1, fq2⟩, fg⟩).toArray 56)) (base := (u2.heap.size + 2)) (by simp) HS1.out HS2.out HOF.out (by simp [Nat.add_assoc])⟩
      case rest =>
        obtain ⟨rfl, m, rfl, s', rfl, h3⟩ := hcut
        have H3 := Lib.hid (show OwnK (((u2.alloc (.cells #[.string (bsOf nm), .int .i64 bc, .int .i64 bs, .slice (some ⟨lb, lo, none⟩) fcs.length lc] 28)).alloc (.cells #[.string (bsOf nm), .int .i64 bc, .int .i64 bs, .slice ao n c] 28))) (more (((u2.alloc (.cells #[.string (bsOf nm), .int .i64 bc, .int .i64 bs, .slice (some ⟨lb, lo, none⟩) fcs.length lc] 28)).alloc (.cells #[.string (bsOf nm), .int .i64 bc, .int .i64 bs, .slice ao n c] 28))) s') (u2.heap.size + 2) 56 14 (.slice ao n c) n (flatC cellsF (ysF l2 fcs k)) 3 1 fv k (flatC cellN (facesAt l2 fcs k)) m (.cells (cellsF ⟨fs, ⟨fr1, fr2⟩, ⟨fa1, fa2⟩, ⟨ft1, ft2⟩, ⟨fk1, fk2⟩, ⟨fp1, fp2⟩, ⟨fq1, fq2⟩, fg⟩).toArray 56) from ⟨s', rfl, h3⟩)
        have hm := h3.blk (((u2.alloc (.cells #[.string (bsOf nm), .int .i64 bc, .int .i64 bs, .slice (some ⟨lb, lo, none⟩) fcs.length lc] 28)).alloc (.cells #[.string (bsOf nm), .int .i64 bc, .int .i64 bs, .slice ao n c] 28))) (by simp)
        have c3 : (more (((u2.alloc (.cells #[.string (bsOf nm), .int .i64 bc, .int .i64 bs, .slice (some ⟨lb, lo, none⟩) fcs.length lc] 28)).alloc (.cells #[.string (bsOf nm), .int .i64 bc, .int .i64 bs, .slice ao n c] 28))) s').cell? ⟨m, 3, none⟩ = some (.int .i64 fa1) := by simp [World.cell?, hm, cellsF]
        have c4 : (more (((u2.alloc (.cells #[.string (bsOf nm), .int .i64 bc, .int .i64 bs, .slice (some ⟨lb, lo, none⟩) fcs.length lc] 28)).alloc (.cells #[.string (bsOf nm), .int .i64 bc, .int .i64 bs, .slice ao n c] 28))) s').cell? ⟨m, 4, none⟩ = some (.int .i64 fa2) := by simp [World.cell?, hm, cellsF]
        have H3S := Lib.hid H3.out.swap
        clear hm h3 hL
        have hways : (∃ A b2 o2, sa = some ⟨b2, o2, none⟩ ∧ k < l2.length ∧ b2 < u2.heap.size ∧ u2.cell? ⟨b2, o2 + k, none⟩ = some (.int .i64 A) ∧ (-9223372036854775808 ≤ A ∧ A ≤ 9223372036854775807) ∧ ((putQ l2 k = true ∧ (A.tmod 2 == 0) = true) ∨ (putQ l2 k = false ∧ (A.tmod 2 == 0) = false))) ∨ (¬ k < l2.length ∧ putQ l2 k = false) := by
          by_cases hkl2 : k < l2.length
          · obtain ⟨b2, o2', h1, h2⟩ := HC2.out (by omega)
            obtain ⟨h4, h5'⟩ := h2 k hkl2
            refine .inl ⟨_, b2, o2', h1, hkl2, h4, h5', HK2.out _ (by simp [List.getD, hkl2]), ?_⟩
            unfold putQ
            rw [decide_eq_true hkl2, Bool.true_and]
            by_cases he : (l2.getD k 0).tmod 2 = 0
            · exact .inl ⟨decide_eq_true he, by rw [he]; rfl⟩
            · exact .inr ⟨decide_eq_false he, by simpa using he⟩
          · refine .inr ⟨hkl2, ?_⟩
            unfold putQ
            rw [decide_eq_false hkl2]
            rfl
        rcases hways with ⟨A, b2, o2', rfl, hl2, hb2, f1, hA, ⟨hp, hq⟩ | ⟨hp, hq⟩⟩ | ⟨hl2, hp⟩
        · have HP := Lib.hid hp
          clear hp
          have x2 : ((k : Nat) : Int) < ((l2.length : Nat) : Int) := by omega
          go_wp2_with (first | (at_builtin; refine wpList_append_k (W2 := ((u2.alloc (.cells #[.string (bsOf nm), .int .i64 bc, .int .i64 bs, .slice (some ⟨lb, lo, none⟩) fcs.length lc] 28)).alloc (.cells #[.string (bsOf nm), .int .i64 bc, .int .i64 bs, .slice ao n c] 28))) rfl (.tmp 47) (.tmp 51) 26 rfl 56 j0 _ 14 120 und_fs hi hz0 hz1 hz2 rfl (by decide) (.slice ao n c) n (flatC cellsF (ysF l2 fcs k)) (u2.heap.size + 2) 3 1 fv k (flatC cellN (facesAt l2 fcs k)) m (.cells (cellsF ⟨fs, ⟨fr1, fr2⟩, ⟨fa1, fa2⟩, ⟨ft1, ft2⟩, ⟨fk1, fk2⟩, ⟨fp1, fp2⟩, ⟨fq1, fq2⟩, fg⟩).toArray 56) (by simp) rfl (by repeat (first | exact H3.out | with_reducible apply OwnK.alloc | with_reducible apply OwnK.more | with_reducible apply OwnK.drew)) (cellsF ⟨true, D0, ⟨fa1, fa2⟩, D0, D0, D0, D0, []⟩) 1 _ rfl (by simp [Nat.add_assoc]) rfl (cellsF_one _) x3 x4 ?_; rintro v4 w9 ⟨s3, rfl, h4⟩; obtain ⟨ao1, c1, rfl⟩ := own3_form1 h4 (((u2.alloc (.cells #[.string (bsOf nm), .int .i64 bc, .int .i64 bs, .slice (some ⟨lb, lo, none⟩) fcs.length lc] 28)).alloc (.cells #[.string (bsOf nm), .int .i64 bc, .int .i64 bs, .slice ao n c] 28))) (by simp); have H4 := Lib.hid (show OwnK ((u2.alloc (.cells #[.string (bsOf nm), .int .i64 bc, .int .i64 bs, .slice (some ⟨lb, lo, none⟩) fcs.length lc] 28)).alloc (.cells #[.string (bsOf nm), .int .i64 bc, .int .i64 bs, .slice ao1 (n + 1) c1] 28)) (more ((u2.alloc (.cells #[.string (bsOf nm), .int .i64 bc, .int .i64 bs, .slice (some ⟨lb, lo, none⟩) fcs.length lc] 28)).alloc (.cells #[.string (bsOf nm), .int .i64 bc, .int .i64 bs, .slice ao1 (n + 1) c1] 28)) s3) (u2.heap.size + 2) 3 1 fv k (flatC cellN (facesAt l2 fcs k)) 56 14 (.slice ao1 (n + 1) c1) (n + 1) (flatC cellsF (ysF l2 fcs k) ++ cellsF ⟨true, D0, ⟨fa1, fa2⟩, D0, D0, D0, D0, []⟩) m (.cells (cellsF ⟨fs, ⟨fr1, fr2⟩, ⟨fa1, fa2⟩, ⟨ft1, ft2⟩, ⟨fk1, fk2⟩, ⟨fp1, fp2⟩, ⟨fq1, fq2⟩, fg⟩).toArray 56) from ⟨s3, rfl, h4.swap⟩); clear h4) | (at_builtin; refine wpList_append_k (W2 := ((u2.alloc (.cells #[.string (bsOf nm), .int .i64 bc, .int .i64 bs, .slice (some ⟨lb, lo, none⟩) fcs.length lc] 28)).alloc (.cells #[.string (bsOf nm), .int .i64 bc, .int .i64 bs, .slice ao1 (n + 1) c1] 28))) rfl (.tmp 54) (.tmp 58) 53 rfl 3 j1 _ 1 8 und_in hi' hy0 hy1 hy2 rfl (by decide) fv k (flatC cellN (facesAt l2 fcs k)) (u2.heap.size + 2) 56 14 (.slice ao1 (n + 1) c1) (n + 1) (flatC cellsF (ysF l2 fcs k) ++ cellsF ⟨true, D0, ⟨fa1, fa2⟩, D0, D0, D0, D0, []⟩) m (.cells (cellsF ⟨fs, ⟨fr1, fr2⟩, ⟨fa1, fa2⟩, ⟨ft1, ft2⟩, ⟨fk1, fk2⟩, ⟨fp1, fp2⟩, ⟨fq1, fq2⟩, fg⟩).toArray 56) (by simp) rfl (by repeat (first | exact H4.out | with_reducible apply OwnK.alloc | with_reducible apply OwnK.more | with_reducible apply OwnK.drew)) (cellN (n + 1)) 1 _ rfl (by simp [Nat.add_assoc]) rfl (cellN_one _) z3 z4 ?_; rintro fv2 w9 ⟨s4, rfl, h5⟩; have hm5 := h5.blk (((u2.alloc (.cells #[.string (bsOf nm), .int .i64 bc, .int .i64 bs, .slice (some ⟨lb, lo, none⟩) fcs.length lc] 28)).alloc (.cells #[.string (bsOf nm), .int .i64 bc, .int .i64 bs, .slice ao1 (n + 1) c1] 28))) (by simp); have LF : (loadWhole 56 ⟨m, 0, none⟩).run Tryz.prog (more (((u2.alloc (.cells #[.string (bsOf nm), .int .i64 bc, .int .i64 bs, .slice (some ⟨lb, lo, none⟩) fcs.length lc] 28)).alloc (.cells #[.string (bsOf nm), .int .i64 bc, .int .i64 bs, .slice ao1 (n + 1) c1] 28))) s4) = .ok (fcV ⟨fs, ⟨fr1, fr2⟩, ⟨fa1, fa2⟩, ⟨ft1, ft2⟩, ⟨fk1, fk2⟩, ⟨fp1, fp2⟩, ⟨fq1, fq2⟩, fg⟩) (more (((u2.alloc (.cells #[.string (bsOf nm), .int .i64 bc, .int .i64 bs, .slice (some ⟨lb, lo, none⟩) fcs.length lc] 28)).alloc (.cells #[.string (bsOf nm), .int .i64 bc, .int .i64 bs, .slice ao1 (n + 1) c1] 28))) s4) := load_fc_at (fun j u hj => by simp only [Nat.zero_add]; simp [World.cell?, hm5, hj]); clear hm5; obtain ⟨fo2, fc2, rfl⟩ := own3_form1 h5 (((u2.alloc (.cells #[.string (bsOf nm), .int .i64 bc, .int .i64 bs, .slice (some ⟨lb, lo, none⟩) fcs.length lc] 28)).alloc (.cells #[.string (bsOf nm), .int .i64 bc, .int .i64 bs, .slice ao1 (n + 1) c1] 28))) (by simp); have H5 := Lib.hid (show OwnK ((u2.alloc (.cells #[.string (bsOf nm), .int .i64 bc, .int .i64 bs, .slice (some ⟨lb, lo, none⟩) fcs.length lc] 28)).alloc (.cells #[.string (bsOf nm), .int .i64 bc, .int .i64 bs, .slice ao1 (n + 1) c1] 28)) (more ((u2.alloc (.cells #[.string (bsOf nm), .int .i64 bc, .int .i64 bs, .slice (some ⟨lb, lo, none⟩) fcs.length lc] 28)).alloc (.cells #[.string (bsOf nm), .int .i64 bc, .int .i64 bs, .slice ao1 (n + 1) c1] 28)) s4) (u2.heap.size + 2) 56 14 (.slice ao1 (n + 1) c1) (n + 1) (flatC cellsF (ysF l2 fcs k) ++ cellsF ⟨true, D0, ⟨fa1, fa2⟩, D0, D0, D0, D0, []⟩) 3 1 (.slice fo2 (k + 1) fc2) (k + 1) (flatC cellN (facesAt l2 fcs k) ++ cellN (n + 1)) m (.cells (cellsF ⟨fs, ⟨fr1, fr2⟩, ⟨fa1, fa2⟩, ⟨ft1, ft2⟩, ⟨fk1, fk2⟩, ⟨fp1, fp2⟩, ⟨fq1, fq2⟩, fg⟩).toArray 56) from ⟨s4, rfl, h5.swap⟩); clear h5) | (at_builtin; refine wpList_append_k (W2 := ((u2.alloc (.cells #[.string (bsOf nm), .int .i64 bc, .int .i64 bs, .slice (some ⟨lb, lo, none⟩) fcs.length lc] 28)).alloc (.cells #[.string (bsOf nm), .int .i64 bc, .int .i64 bs, .slice ao1 (n + 1) c1] 28))) rfl (.tmp 61) (.tmp 63) 26 rfl 56 j0 _ 14 120 und_fs hi hz0 hz1 hz2 rfl (by decide) (.slice ao1 (n + 1) c1) (n + 1) (flatC cellsF (ysF l2 fcs k) ++ cellsF ⟨true, D0, ⟨fa1, fa2⟩, D0, D0, D0, D0, []⟩) (u2.heap.size + 2) 3 1 (.slice fo2 (k + 1) fc2) (k + 1) (flatC cellN (facesAt l2 fcs k) ++ cellN (n + 1)) m (.cells (cellsF ⟨fs, ⟨fr1, fr2⟩, ⟨fa1, fa2⟩, ⟨ft1, ft2⟩, ⟨fk1, fk2⟩, ⟨fp1, fp2⟩, ⟨fq1, fq2⟩, fg⟩).toArray 56) (by simp) rfl (by repeat (first | exact H5.out | with_reducible apply OwnK.alloc | with_reducible apply OwnK.more | with_reducible apply OwnK.drew)) (cellsF ⟨fs, ⟨fr1, fr2⟩, ⟨fa1, fa2⟩, ⟨ft1, ft2⟩, ⟨fk1, fk2⟩, ⟨fp1, fp2⟩, ⟨fq1, fq2⟩, fg⟩) 1 _ rfl (by simp [Nat.add_assoc]) rfl (cellsF_one _) y3 y4 ?_; rintro v6 w9 ⟨s5, rfl, h6⟩; obtain ⟨ao2, c2, rfl⟩ := own3_form1 h6 (((u2.alloc (.cells #[.string (bsOf nm), .int .i64 bc, .int .i64 bs, .slice (some ⟨lb, lo, none⟩) fcs.length lc] 28)).alloc (.cells #[.string (bsOf nm), .int .i64 bc, .int .i64 bs, .slice ao1 (n + 1) c1] 28))) (by simp); have H6 := Lib.hid h6; clear h6))
          go_roundw
          case rel => exact ⟨k + 1, ao2, n + 1 + 1, c2, _, rfl, by omega, rfl, (by rw [ys_put HF.out HP.out, HN.out]; simp), s5, rfl, (by rw [ys_put HF.out HP.out, flatC_snoc, flatC_snoc]; exact H6.out.fst), (by rw [fa_put HF.out HP.out, flatC_snoc, ← HN.out]; exact H6.out.snd), H6.out.off⟩
          case measure => simp [intOf] <;> omega
        · have HP := Lib.hid hp
          clear hp
          have x2 : ((k : Nat) : Int) < ((l2.length : Nat) : Int) := by omega
          go_wp2_with (first | (at_builtin; refine wpList_append_k (W2 := ((u2.alloc (.cells #[.string (bsOf nm), .int .i64 bc, .int .i64 bs, .slice (some ⟨lb, lo, none⟩) fcs.length lc] 28)).alloc (.cells #[.string (bsOf nm), .int .i64 bc, .int .i64 bs, .slice ao n c] 28))) rfl (.tmp 54) (.tmp 58) 53 rfl 3 j1 _ 1 8 und_in hi' hy0 hy1 hy2 rfl (by decide) fv k (flatC cellN (facesAt l2 fcs k)) (u2.heap.size + 2) 56 14 (.slice ao n c) n (flatC cellsF (ysF l2 fcs k)) m (.cells (cellsF ⟨fs, ⟨fr1, fr2⟩, ⟨fa1, fa2⟩, ⟨ft1, ft2⟩, ⟨fk1, fk2⟩, ⟨fp1, fp2⟩, ⟨fq1, fq2⟩, fg⟩).toArray 56) (by simp) rfl (by repeat (first | exact H3S.out | with_reducible apply OwnK.alloc | with_reducible apply OwnK.more | with_reducible apply OwnK.drew)) (cellN n) 1 _ rfl (by simp [Nat.add_assoc]) rfl (cellN_one _) z3 z4 ?_; rintro fv2 w9 ⟨s4, rfl, h5⟩; have hm5 := h5.blk (((u2.alloc (.cells #[.string (bsOf nm), .int .i64 bc, .int .i64 bs, .slice (some ⟨lb, lo, none⟩) fcs.length lc] 28)).alloc (.cells #[.string (bsOf nm), .int .i64 bc, .int .i64 bs, .slice ao n c] 28))) (by simp); have LF : (loadWhole 56 ⟨m, 0, none⟩).run Tryz.prog (more (((u2.alloc (.cells #[.string (bsOf nm), .int .i64 bc, .int .i64 bs, .slice (some ⟨lb, lo, none⟩) fcs.length lc] 28)).alloc (.cells #[.string (bsOf nm), .int .i64 bc, .int .i64 bs, .slice ao n c] 28))) s4) = .ok (fcV ⟨fs, ⟨fr1, fr2⟩, ⟨fa1, fa2⟩, ⟨ft1, ft2⟩, ⟨fk1, fk2⟩, ⟨fp1, fp2⟩, ⟨fq1, fq2⟩, fg⟩) (more (((u2.alloc (.cells #[.string (bsOf nm), .int .i64 bc, .int .i64 bs, .slice (some ⟨lb, lo, none⟩) fcs.length lc] 28)).alloc (.cells #[.string (bsOf nm), .int .i64 bc, .int .i64 bs, .slice ao n c] 28))) s4) := load_fc_at (fun j u hj => by simp only [Nat.zero_add]; simp [World.cell?, hm5, hj]); clear hm5; obtain ⟨fo2, fc2, rfl⟩ := own3_form1 h5 (((u2.alloc (.cells #[.string (bsOf nm), .int .i64 bc, .int .i64 bs, .slice (some ⟨lb, lo, none⟩) fcs.length lc] 28)).alloc (.cells #[.string (bsOf nm), .int .i64 bc, .int .i64 bs, .slice ao n c] 28))) (by simp); have H5 := Lib.hid (show OwnK ((u2.alloc (.cells #[.string (bsOf nm), .int .i64 bc, .int .i64 bs, .slice (some ⟨lb, lo, none⟩) fcs.length lc] 28)).alloc (.cells #[.string (bsOf nm), .int .i64 bc, .int .i64 bs, .slice ao n c] 28)) (more ((u2.alloc (.cells #[.string (bsOf nm), .int .i64 bc, .int .i64 bs, .slice (some ⟨lb, lo, none⟩) fcs.length lc] 28)).alloc (.cells #[.string (bsOf nm), .int .i64 bc, .int .i64 bs, .slice ao n c] 28)) s4) (u2.heap.size + 2) 56 14 (.slice ao n c) n (flatC cellsF (ysF l2 fcs k)) 3 1 (.slice fo2 (k + 1) fc2) (k + 1) (flatC cellN (facesAt l2 fcs k) ++ cellN n) m (.cells (cellsF ⟨fs, ⟨fr1, fr2⟩, ⟨fa1, fa2⟩, ⟨ft1, ft2⟩, ⟨fk1, fk2⟩, ⟨fp1, fp2⟩, ⟨fq1, fq2⟩, fg⟩).toArray 56) from ⟨s4, rfl, h5.swap⟩); clear h5) | (at_builtin; refine wpList_append_k (W2 := ((u2.alloc (.cells #[.string (bsOf nm), .int .i64 bc, .int .i64 bs, .slice (some ⟨lb, lo, none⟩) fcs.length lc] 28)).alloc (.cells #[.string (bsOf nm), .int .i64 bc, .int .i64 bs, .slice ao n c] 28))) rfl (.tmp 61) (.tmp 63) 26 rfl 56 j0 _ 14 120 und_fs hi hz0 hz1 hz2 rfl (by decide) (.slice ao n c) n (flatC cellsF (ysF l2 fcs k)) (u2.heap.size + 2) 3 1 (.slice fo2 (k + 1) fc2) (k + 1) (flatC cellN (facesAt l2 fcs k) ++ cellN n) m (.cells (cellsF ⟨fs, ⟨fr1, fr2⟩, ⟨fa1, fa2⟩, ⟨ft1, ft2⟩, ⟨fk1, fk2⟩, ⟨fp1, fp2⟩, ⟨fq1, fq2⟩, fg⟩).toArray 56) (by simp) rfl (by repeat (first | exact H5.out | with_reducible apply OwnK.alloc | with_reducible apply OwnK.more | with_reducible apply OwnK.drew)) (cellsF ⟨fs, ⟨fr1, fr2⟩, ⟨fa1, fa2⟩, ⟨ft1, ft2⟩, ⟨fk1, fk2⟩, ⟨fp1, fp2⟩, ⟨fq1, fq2⟩, fg⟩) 1 _ rfl (by simp [Nat.add_assoc]) rfl (cellsF_one _) x3 x4 ?_; rintro v6 w9 ⟨s5, rfl, h6⟩; obtain ⟨ao2, c2, rfl⟩ := own3_form1 h6 (((u2.alloc (.cells #[.string (bsOf nm), .int .i64 bc, .int .i64 bs, .slice (some ⟨lb, lo, none⟩) fcs.length lc] 28)).alloc (.cells #[.string (bsOf nm), .int .i64 bc, .int .i64 bs, .slice ao n c] 28))) (by simp); have H6 := Lib.hid h6; clear h6))
          go_roundw
          case rel => exact ⟨k + 1, ao2, n + 1, c2, _, rfl, by omega, rfl, (by rw [ys_not HF.out HP.out, HN.out]; simp), s5, rfl, (by rw [ys_not HF.out HP.out, flatC_snoc]; exact H6.out.fst), (by rw [fa_not HF.out HP.out, flatC_snoc, ← HN.out]; exact H6.out.snd), H6.out.off⟩
          case measure => simp [intOf] <;> omega
        · have HP := Lib.hid hp
          clear hp
          have x2 : ¬ ((k : Nat) : Int) < ((l2.length : Nat) : Int) := by omega
          go_wp2_with (first | (at_builtin; refine wpList_append_k (W2 := ((u2.alloc (.cells #[.string (bsOf nm), .int .i64 bc, .int .i64 bs, .slice (some ⟨lb, lo, none⟩) fcs.length lc] 28)).alloc (.cells #[.string (bsOf nm), .int .i64 bc, .int .i64 bs, .slice ao n c] 28))) rfl (.tmp 54) (.tmp 58) 53 rfl 3 j1 _ 1 8 und_in hi' hy0 hy1 hy2 rfl (by decide) fv k (flatC cellN (facesAt l2 fcs k)) (u2.heap.size + 2) 56 14 (.slice ao n c) n (flatC cellsF (ysF l2 fcs k)) m (.cells (cellsF ⟨fs, ⟨fr1, fr2⟩, ⟨fa1, fa2⟩, ⟨ft1, ft2⟩, ⟨fk1, fk2⟩, ⟨fp1, fp2⟩, ⟨fq1, fq2⟩, fg⟩).toArray 56) (by simp) rfl (by repeat (first | exact H3S.out | with_reducible apply OwnK.alloc | with_reducible apply OwnK.more | with_reducible apply OwnK.drew)) (cellN n) 1 _ rfl (by simp [Nat.add_assoc]) rfl (cellN_one _) z3 z4 ?_; rintro fv2 w9 ⟨s4, rfl, h5⟩; have hm5 := h5.blk (((u2.alloc (.cells #[.string (bsOf nm), .int .i64 bc, .int .i64 bs, .slice (some ⟨lb, lo, none⟩) fcs.length lc] 28)).alloc (.cells #[.string (bsOf nm), .int .i64 bc, .int .i64 bs, .slice ao n c] 28))) (by simp); have LF : (loadWhole 56 ⟨m, 0, none⟩).run Tryz.prog (more (((u2.alloc (.cells #[.string (bsOf nm), .int .i64 bc, .int .i64 bs, .slice (some ⟨lb, lo, none⟩) fcs.length lc] 28)).alloc (.cells #[.string (bsOf nm), .int .i64 bc, .int .i64 bs, .slice ao n c] 28))) s4) = .ok (fcV ⟨fs, ⟨fr1, fr2⟩, ⟨fa1, fa2⟩, ⟨ft1, ft2⟩, ⟨fk1, fk2⟩, ⟨fp1, fp2⟩, ⟨fq1, fq2⟩, fg⟩) (more (((u2.alloc (.cells #[.string (bsOf nm), .int .i64 bc, .int .i64 bs, .slice (some ⟨lb, lo, none⟩) fcs.length lc] 28)).alloc (.cells #[.string (bsOf nm), .int .i64 bc, .int .i64 bs, .slice ao n c] 28))) s4) := load_fc_at (fun j u hj => by simp only [Nat.zero_add]; simp [World.cell?, hm5, hj]); clear hm5; obtain ⟨fo2, fc2, rfl⟩ := own3_form1 h5 (((u2.alloc (.cells #[.string (bsOf nm), .int .i64 bc, .int .i64 bs, .slice (some ⟨lb, lo, none⟩) fcs.length lc] 28)).alloc (.cells #[.string (bsOf nm), .int .i64 bc, .int .i64 bs, .slice ao n c] 28))) (by simp); have H5 := Lib.hid (show OwnK ((u2.alloc (.cells #[.string (bsOf nm), .int .i64 bc, .int .i64 bs, .slice (some ⟨lb, lo, none⟩) fcs.length lc] 28)).alloc (.cells #[.string (bsOf nm), .int .i64 bc, .int .i64 bs, .slice ao n c] 28)) (more ((u2.alloc (.cells #[.string (bsOf nm), .int .i64 bc, .int .i64 bs, .slice (some ⟨lb, lo, none⟩) fcs.length lc] 28)).alloc (.cells #[.string (bsOf nm), .int .i64 bc, .int .i64 bs, .slice ao n c] 28)) s4) (u2.heap.size + 2) 56 14 (.slice ao n c) n (flatC cellsF (ysF l2 fcs k)) 3 1 (.slice fo2 (k + 1) fc2) (k + 1) (flatC cellN (facesAt l2 fcs k) ++ cellN n) m (.cells (cellsF ⟨fs, ⟨fr1, fr2⟩, ⟨fa1, fa2⟩, ⟨ft1, ft2⟩, ⟨fk1, fk2⟩, ⟨fp1, fp2⟩, ⟨fq1, fq2⟩, fg⟩).toArray 56) from ⟨s4, rfl, h5.swap⟩); clear h5) | (at_builtin; refine wpList_append_k (W2 := ((u2.alloc (.cells #[.string (bsOf nm), .int .i64 bc, .int .i64 bs, .slice (some ⟨lb, lo, none⟩) fcs.length lc] 28)).alloc (.cells #[.string (bsOf nm), .int .i64 bc, .int .i64 bs, .slice ao n c] 28))) rfl (.tmp 61) (.tmp 63) 26 rfl 56 j0 _ 14 120 und_fs hi hz0 hz1 hz2 rfl (by decide) (.slice ao n c) n (flatC cellsF (ysF l2 fcs k)) (u2.heap.size + 2) 3 1 (.slice fo2 (k + 1) fc2) (k + 1) (flatC cellN (facesAt l2 fcs k) ++ cellN n) m (.cells (cellsF ⟨fs, ⟨fr1, fr2⟩, ⟨fa1, fa2⟩, ⟨ft1, ft2⟩, ⟨fk1, fk2⟩, ⟨fp1, fp2⟩, ⟨fq1, fq2⟩, fg⟩).toArray 56) (by simp) rfl (by repeat (first | exact H5.out | with_reducible apply OwnK.alloc | with_reducible apply OwnK.more | with_reducible apply OwnK.drew)) (cellsF ⟨fs, ⟨fr1, fr2⟩, ⟨fa1, fa2⟩, ⟨ft1, ft2⟩, ⟨fk1, fk2⟩, ⟨fp1, fp2⟩, ⟨fq1, fq2⟩, fg⟩) 1 _ rfl (by simp [Nat.add_assoc]) rfl (cellsF_one _) x3 x4 ?_; rintro v6 w9 ⟨s5, rfl, h6⟩; obtain ⟨ao2, c2, rfl⟩ := own3_form1 h6 (((u2.alloc (.cells #[.string (bsOf nm), .int .i64 bc, .int .i64 bs, .slice (some ⟨lb, lo, none⟩) fcs.length lc] 28)).alloc (.cells #[.string (bsOf nm), .int .i64 bc, .int .i64 bs, .slice ao n c] 28))) (by simp); have H6 := Lib.hid h6; clear h6))
          go_roundw
          case rel => exact ⟨k + 1, ao2, n + 1, c2, _, rfl, by omega, rfl, (by rw [ys_not HF.out HP.out, HN.out]; simp), s5, rfl, (by rw [ys_not HF.out HP.out, flatC_snoc]; exact H6.out.fst), (by rw [fa_not HF.out HP.out, flatC_snoc, ← HN.out]; exact H6.out.snd), H6.out.off⟩
          case measure => simp [intOf] <;> omega
    · obtain rfl : k = fcs.length := by omega
      have hrowY : Fcs (more (((u2.alloc (.cells #[.string (bsOf nm), .int .i64 bc, .int .i64 bs, .slice (some ⟨lb, lo, none⟩) fcs.length lc] 28)).alloc (.cells #[.string (bsOf nm), .int .i64 bc, .int .i64 bs, .slice ao n c] 28))) s) (.slice ao n c) (ysF l2 fcs fcs.length) := by
        have h1 := HS1.out
        exact OwnW.row (f := cellsF) (base := (u2.heap.size + 2)) (e := 56) (X := ((u2.alloc (.cells #[.string (bsOf nm), .int .i64 bc, .int .i64 bs, .slice (some ⟨lb, lo, none⟩) fcs.length lc] 28)).alloc (.cells #[.string (bsOf nm), .int .i64 bc, .int .i64 bs, .slice ao n c] 28))) cellsF_len (by decide) (by simp) (by rw [← HN.out]; exact ⟨s, rfl, h1⟩)
      have hrowF : GRow cellN 1 (more (((u2.alloc (.cells #[.string (bsOf nm), .int .i64 bc, .int .i64 bs, .slice (some ⟨lb, lo, none⟩) fcs.length lc] 28)).alloc (.cells #[.string (bsOf nm), .int .i64 bc, .int .i64 bs, .slice ao n c] 28))) s) fv (facesAt l2 fcs fcs.length) := by
        have h1 := HS2.out
        exact OwnW.row (f := cellN) (base := (u2.heap.size + 2)) (e := 3) (X := ((u2.alloc (.cells #[.string (bsOf nm), .int .i64 bc, .int .i64 bs, .slice (some ⟨lb, lo, none⟩) fcs.length lc] 28)).alloc (.cells #[.string (bsOf nm), .int .i64 bc, .int .i64 bs, .slice ao n c] 28))) cellN_len (by decide) (by simp) (by rw [show (facesAt l2 fcs fcs.length).length = fcs.length by simp [facesAt]]; exact ⟨s, rfl, h1⟩)
      obtain ⟨fo, fc, rfl⟩ := ownSS_form HS2.out (((u2.alloc (.cells #[.string (bsOf nm), .int .i64 bc, .int .i64 bs, .slice (some ⟨lb, lo, none⟩) fcs.length lc] 28)).alloc (.cells #[.string (bsOf nm), .int .i64 bc, .int .i64 bs, .slice ao n c] 28))) (by simp)
      refine at_world (w := u2) (R := fun W => More (((u2.alloc (.cells #[.string (bsOf nm), .int .i64 bc, .int .i64 bs, .slice (some ⟨lb, lo, none⟩) fcs.length lc] 28)).alloc (.cells #[.string (bsOf nm), .int .i64 bc, .int .i64 bs, .slice ao n c] 28))) W ∧ Fcs W (.slice ao n c) (ysF l2 fcs fcs.length) ∧ GRow cellN 1 W (.slice fo fcs.length fc) (facesAt l2 fcs fcs.length)) (by repeat (first | exact More.refl _ | refine More.alloc ?_ _ | refine More.more ?_ _ | refine More.drew ?_ | refine More.drewN ?_ _)) ⟨More.more (More.refl _) s, hrowY, hrowF⟩ ?_
      clear hrowY hrowF
      intro wq hMu hR
      obtain ⟨hMX, hrowY, hrowF⟩ := hR
      have hlx : wq.heap[u2.heap.size]? = some ((.cells #[.string (bsOf nm), .int .i64 bc, .int .i64 bs, .slice (some ⟨lb, lo, none⟩) fcs.length lc] 28 (0, 0))) := heap_at u2 (More.trans (More.alloc (More.refl _) _) hMX) rfl
      have hxl : u2.heap.size < wq.heap.size := (Array.getElem?_eq_some_iff.1 hlx).1
      have kx0 : wq.cell? ⟨u2.heap.size, 0, none⟩ = some (.string (bsOf nm)) := by simp [World.cell?, hlx]
      have kx1 : wq.cell? ⟨u2.heap.size, 1, none⟩ = some (.int .i64 bc) := by simp [World.cell?, hlx]
      have kx2 : wq.cell? ⟨u2.heap.size, 2, none⟩ = some (.int .i64 bs) := by simp [World.cell?, hlx]
      have kx3 : wq.cell? ⟨u2.heap.size, 3, none⟩ = some (.slice (some ⟨lb, lo, none⟩) fcs.length lc) := by simp [World.cell?, hlx]
      have hly : wq.heap[u2.heap.size + 1]? = some ((.cells #[.string (bsOf nm), .int .i64 bc, .int .i64 bs, .slice ao n c] 28 (0, 0))) := heap_at (u2.alloc (.cells #[.string (bsOf nm), .int .i64 bc, .int .i64 bs, .slice (some ⟨lb, lo, none⟩) fcs.length lc] 28)) hMX (by simp)
      obtain ⟨y, hy⟩ : ∃ y, u2.heap.size + 1 = y := ⟨_, rfl⟩
      rw [hy] at hly ⊢
      clear hy
      have HLY := Lib.hid hly
      have hB3 : ∀ W', More wq W' → Gls W' (.slice ga 2 ca) (glassesG []) ∧ Fcs W' (.slice (some ⟨lb, lo, none⟩) fcs.length lc) fcs ∧ Tab W' := fun W' h => HB.out W' (hMu.trans h)
      have HBQ := Lib.hid hB3
      have HM2 := Lib.hid (HM2.out.trans hMu)
      have HRY := Lib.hid hrowY
      have HRF := Lib.hid hrowF
      clear hrowY hrowF x3 x4 y3 y4 z3 z4 hyk1 hyk2 hkl hlx hly hMu hMX hB3 HB HS1 HS2 HOF HN
      go_upto_region 14 with fail
      go_cut [13, 14] from 67 (fun p e wx => ∃ (m : Nat) (v : Value), p = .pointer (some ⟨m, 0, none⟩) ∧ e = .int .i64 E1 ∧ More wq wx ∧ wx.heap[m]? = some (.cells #[v, .int .i64 o1, .int .i64 o2, .bool o3] 38 (0, 0)) ∧ Sfs wx v P1)
      case first =>
        go_region_law (first | (go_simp; go_at_call 9; (refine Calls.mono (line_c 0 _) ?_); rintro en w' ⟨rfl, r7, rfl⟩; rw [stLine]) | (go_simp; go_at_call 8; (refine Calls.mono (HB1.out _ _ _ (HBQ.out _ (by repeat (first | exact More.refl _ | refine More.alloc ?_ _ | refine More.more ?_ _ | refine More.drew ?_ | refine More.drewN ?_ _))).2.1 (HBQ.out _ (by repeat (first | exact More.refl _ | refine More.alloc ?_ _ | refine More.more ?_ _ | refine More.drew ?_ | refine More.drewN ?_ _))).1 (HBQ.out _ (by repeat (first | exact More.refl _ | refine More.alloc ?_ _ | refine More.more ?_ _ | refine More.drew ?_ | refine More.drewN ?_ _))).2.2) ?_); rintro e w' ⟨v4, rfl, ⟨r4, rfl⟩, hS4, hN4⟩; obtain ⟨wa, wc4, rfl, -⟩ := grow_form sfs_pos hS4))
        all_goals
          go_wp2_with fail
          go_meet
          exact ⟨_, _, rfl, rfl, (by repeat (first | exact More.refl _ | refine More.alloc ?_ _ | refine More.more ?_ _ | refine More.drew ?_ | refine More.drewN ?_ _)), heap_at _ (by repeat (first | exact More.refl _ | refine More.alloc ?_ _ | refine More.more ?_ _ | refine More.drew ?_ | refine More.drewN ?_ _)) (by simp), (by (try rw [more_more] at hS4); first | ((refine GRow.up hS4 ?_); (repeat (first | exact More.refl _ | refine More.alloc ?_ _ | refine More.more ?_ _)); done) | exact sfs_swap (by simp) hS4 (hN4.less (by simp)))⟩
      case rest =>
        obtain ⟨m3, v3, rfl, rfl, hMB, hm3, hS3⟩ := hcut
        obtain ⟨va, vc, rfl, -⟩ := grow_form sfs_pos hS3
        obtain ⟨wb, hwb⟩ : ∃ x, x = wc := ⟨_, rfl⟩
        subst hwb
        have hly : wb.heap[y]? = some ((.cells #[.string (bsOf nm), .int .i64 bc, .int .i64 bs, .slice ao n c] 28 (0, 0))) := by
          obtain ⟨rB, rfl⟩ := hMB
          rw [heap_more _ _ _ (Array.getElem?_eq_some_iff.1 HLY.out).1]
          exact HLY.out
        have hyl : y < wb.heap.size := (Array.getElem?_eq_some_iff.1 hly).1
        have ky0 : wb.cell? ⟨y, 0, none⟩ = some (.string (bsOf nm)) := by simp [World.cell?, hly]
        have ky1 : wb.cell? ⟨y, 1, none⟩ = some (.int .i64 bc) := by simp [World.cell?, hly]
        have ky2 : wb.cell? ⟨y, 2, none⟩ = some (.int .i64 bs) := by simp [World.cell?, hly]
        have ky3 : wb.cell? ⟨y, 3, none⟩ = some (.slice ao n c) := by simp [World.cell?, hly]
        have k0 : wb.cell? ⟨m3, 0, none⟩ = some (.slice va P1.length vc) := by simp [World.cell?, hm3]
        have k1 : wb.cell? ⟨m3, 1, none⟩ = some (.int .i64 o1) := by simp [World.cell?, hm3]
        have k2 : wb.cell? ⟨m3, 2, none⟩ = some (.int .i64 o2) := by simp [World.cell?, hm3]
        have k3 : wb.cell? ⟨m3, 3, none⟩ = some (.bool o3) := by simp [World.cell?, hm3]
        have hB3 : ∀ W', More wb W' → Gls W' (.slice ga 2 ca) (glassesG []) ∧ Fcs W' (.slice ao n c) (ysF l2 fcs fcs.length) ∧ Tab W' := fun W' h => ⟨(HBQ.out W' (hMB.trans h)).1, HRY.out.up (hMB.trans h), (HBQ.out W' (hMB.trans h)).2.2⟩
        have HB3 := Lib.hid hB3
        have HMw := Lib.hid (HM2.out.trans hMB)
        have HS3 := Lib.hid hS3
        have HRG := Lib.hid (HRF.out.up hMB)
        have HK0 := Lib.hid k0
        have HK1 := Lib.hid k1
        have HK2' := Lib.hid k2
        have HK3 := Lib.hid k3
        clear hB3 hly hS3 hMB hm3 k0 k1 k2 k3 HRY HRF HBQ HM2 HB1 HC2 HK2 HLY kx0 kx1 kx2 kx3 hxl
        go_upto_region 15 with fail
        go_cut [15, 16] from 74 (fun p e wx => ∃ (m : Nat) (v : Value), p = .pointer (some ⟨m, 0, none⟩) ∧ e = .int .i64 E1 ∧ More wb wx ∧ wx.heap[m]? = some (.cells #[v, .int .i64 n1, .int .i64 n2, .bool n3] 38 (0, 0)) ∧ Sfs wx v P2)
        case first =>
          go_region_law (first | (go_simp; go_at_call 9; (refine Calls.mono (line_c 0 _) ?_); rintro en w' ⟨rfl, r7, rfl⟩; rw [stLine]) | (go_simp; go_at_call 8; (refine Calls.mono (HB2.out _ _ _ (HB3.out _ (by repeat (first | exact More.refl _ | refine More.alloc ?_ _ | refine More.more ?_ _ | refine More.drew ?_ | refine More.drewN ?_ _))).2.1 (HB3.out _ (by repeat (first | exact More.refl _ | refine More.alloc ?_ _ | refine More.more ?_ _ | refine More.drew ?_ | refine More.drewN ?_ _))).1 (HB3.out _ (by repeat (first | exact More.refl _ | refine More.alloc ?_ _ | refine More.more ?_ _ | refine More.drew ?_ | refine More.drewN ?_ _))).2.2) ?_); rintro e w' ⟨v4, rfl, ⟨r4, rfl⟩, hS4, hN4⟩; obtain ⟨wa, wc4, rfl, -⟩ := grow_form sfs_pos hS4))
          all_goals
            go_wp2_with fail
            go_meet
            exact ⟨_, _, rfl, rfl, (by repeat (first | exact More.refl _ | refine More.alloc ?_ _ | refine More.more ?_ _ | refine More.drew ?_ | refine More.drewN ?_ _)), heap_at _ (by repeat (first | exact More.refl _ | refine More.alloc ?_ _ | refine More.more ?_ _ | refine More.drew ?_ | refine More.drewN ?_ _)) (by simp), (by (try rw [more_more] at hS4); first | ((refine GRow.up hS4 ?_); (repeat (first | exact More.refl _ | refine More.alloc ?_ _ | refine More.more ?_ _)); done) | exact sfs_swap (by simp) hS4 (hN4.less (by simp)))⟩
        case rest =>
          obtain ⟨m4, v4, rfl, rfl, hMC, hm4, hS4⟩ := hcut
          obtain ⟨wa, wd, rfl, -⟩ := grow_form sfs_pos hS4
          have hml4 : m4 < wc.heap.size := (Array.getElem?_eq_some_iff.1 hm4).1
          have j0' : wc.cell? ⟨m4, 0, none⟩ = some (.slice wa P2.length wd) := by simp [World.cell?, hm4]
          have j1' : wc.cell? ⟨m4, 1, none⟩ = some (.int .i64 n1) := by simp [World.cell?, hm4]
          have j2' : wc.cell? ⟨m4, 2, none⟩ = some (.int .i64 n2) := by simp [World.cell?, hm4]
          have j3' : wc.cell? ⟨m4, 3, none⟩ = some (.bool n3) := by simp [World.cell?, hm4]
          have k0 := cell_up hMC HK0.out
          have k1 := cell_up hMC HK1.out
          have k2 := cell_up hMC HK2'.out
          have k3 := cell_up hMC HK3.out
          have hml3 : m3 < wc.heap.size := World.block_lt_of_cell? wc _ k0
          have hS3 := HS3.out.up hMC
          have hG := HRG.out.up hMC
          have HT := Lib.hid (HB3.out wc hMC).2.2
          have HM := Lib.hid (HMw.out.trans hMC)
          clear ky0 ky1 ky2 ky3 hyl hm4 hMC HK0 HK1 HK2' HK3 HS3 HRG HB3 HMw HB2
          rcases hE06 with rfl | rfl
          · obtain ⟨e1, hr, hl1, hl2, hlast, hrow⟩ := HALL.out rfl
            obtain ⟨rfl, rfl, rfl⟩ : n1 = o1 ∧ n2 = o2 ∧ n3 = o3 := by
              injection e1 with a1 a2 a3
              exact ⟨a1, a2, a3⟩
            obtain ⟨⟨t1, t2, t3⟩, hL⟩ : ∃ d, lastP P1 = d := ⟨_, rfl⟩
            rw [hL] at hlast
            rw [hl1] at k0 hS3
            rw [hl2] at j0' hS4
            have hy10 := HYL.out.2
            obtain ⟨ny, hny⟩ : ∃ q, (ysF l2 fcs fcs.length).length = q := ⟨_, rfl⟩
            have hlt : ∀ k, k < fcs.length → faceAt l2 fcs k < ny := fun k hk => by rw [← hny]; exact faceAt_lt l2 fcs hk
            rw [hny] at j0' hS4 hl2 hy10
            have hla1 : ∀ r, Calls Tryz.prog 14 #[.agg #[.slice va fcs.length vc, .int .i64 n1, .int .i64 n2, .bool n3]] (more wc r) fun e w' => e = .returned (.agg #[.int .i64 t1, .int .i64 t2, .bool t3]) ∧ More (more wc r) w' := fun r => by
              have h1 := slast_c (.slice va fcs.length vc) P1 ⟨n1, n2, n3⟩ (more wc r) hS3.more (by omega)
              rw [hL] at h1
              exact h1
            have hla2 : ∀ r, Calls Tryz.prog 14 #[.agg #[.slice wa ny wd, .int .i64 n1, .int .i64 n2, .bool n3]] (more wc r) fun e w' => e = .returned (.agg #[.int .i64 t1, .int .i64 t2, .bool t3]) ∧ More (more wc r) w' := fun r => by
              have h1 := slast_c (.slice wa ny wd) P2 ⟨n1, n2, n3⟩ (more wc r) hS4.more (by omega)
              rw [hlast] at h1
              exact h1
            have HL1 := Lib.hid hla1
            have HL2 := Lib.hid hla2
            have HROW := Lib.hid hrow
            have HLT := Lib.hid hlt
            have HS1' := Lib.hid hS3
            have HS2' := Lib.hid hS4
            have HGR := Lib.hid hG
            clear hla1 hla2 hrow hlt hS3 hS4 hG hL hlast e1 hl1 hl2 hny
            have N := neql_self
            have NS := neql_sf
            go_upto_region 18 with (first | (go_at_call 7; (refine Calls.mono (known13_c _ (HT.out.up (by repeat (first | exact More.refl _ | refine More.alloc ?_ _ | refine More.more ?_ _ | refine More.drew ?_ | refine More.drewN ?_ _)))) ?_); rintro e w' ⟨rfl, r8, rfl⟩))
            (try simp only [List.append_eq, List.cons_append, List.nil_append])
            (first | (with_reducible refine wp_more_quick_m (id := 18) ?_ ?_ ?_) | (refine wp_more_quick (id := 18) ?_ ?_ ?_))
            · kernel_rfl
            · kernel_rfl
            (try simp only [List.append_eq, List.cons_append, List.nil_append])
            (repeat (any_goals (first | go_big_quiet_step (first | (go_at_call 14; (with_reducible apply quiet_call); with_reducible exact HL1.out _) | (go_at_call 14; (with_reducible apply quiet_call); with_reducible exact HL2.out _)))))
            (with_reducible refine wpQuiet_nil ?_)
            intro r
            go_wp2_with fail
            go_loopw [120] (fun i wr => ∃ k : Nat, k ≤ fcs.length ∧ i = .int .i64 k ∧ More wc wr) (fun i _ => fcs.length - (intOf i).toNat)
            case atStart => exact ⟨0, by omega, rfl, (by repeat (first | exact More.refl _ | refine More.alloc ?_ _ | refine More.more ?_ _ | refine More.drew ?_ | refine More.drewN ?_ _))⟩
            case round =>
              obtain ⟨k, hk, rfl, s9, rfl⟩ := hrel
              by_cases hkl : k < fcs.length
              · obtain ⟨sf, h1, h2⟩ := HROW.out k hkl
                obtain ⟨b, o, rfl, hb, hL1, -⟩ := sfs_at HS1'.out h1
                obtain ⟨b', o', rfl, hb', hL2, -⟩ := sfs_at HS2'.out h2
                have h3 : (facesAt l2 fcs fcs.length)[k]? = some (faceAt l2 fcs k) := by simp [facesAt, hkl]
                have h4 := HLT.out k hkl
                obtain ⟨K, hK⟩ : ∃ K, faceAt l2 fcs k = K := ⟨_, rfl⟩
                rw [hK] at h3 h4 hL2
                obtain ⟨ao', cc', hv, hcap⟩ := grow_form (f := cellN) (fun a => by simp [cellN]) HGR.out
                have hlf : (facesAt l2 fcs fcs.length).length = fcs.length := by simp [facesAt]
                obtain ⟨fb, foo, hao, -, -⟩ := hcap (by rw [hlf]; omega)
                subst hao
                injection hv with hv1 hv2 hv3
                subst hv1
                have c0 := gcell HGR.out h3 0 _ rfl
                simp only [Nat.mul_one, Nat.add_zero] at c0
                have hbf := World.block_lt_of_cell? wc _ c0
                have x1 : ((k : Nat) : Int) < ((fcs.length : Nat) : Int) := by omega
                have x2 : ((K : Nat) : Int) < ((ny : Nat) : Int) := by omega
                clear h1 h2 h3 h4 hK hv2 hv3 hlf hcap
                go_wp2_with (first | ((with_reducible show Code.wp _ (Code.region 14 _ true) _ _ _); (with_reducible apply wp_more_late_m (id := 14) 8 7 13 [6]); kernel_rfl; kernel_rfl; kernel_rfl; (intro _ _ _ _ _ h; exact h); rfl; decide; rfl; (intro _ _; go_simp; rfl); intro x; (try simp only [List.append_eq, List.cons_append, List.nil_append]); (simp only [List.take_succ_cons, List.take_zero, List.drop_succ_cons, List.drop_zero, skipAt, Nat.reduceAdd, Nat.reduceEqDiff, reduceIte, Nat.zero_add]); (repeat (any_goals (first | go_big_quiet_step (fail) | quiet_step (fail)))); (with_reducible refine wpQuiet_nil ?_); intro r1 r2) | ((with_reducible show Code.wp _ (Code.region 14 _ true) _ _ _); (with_reducible apply wp_more_late (id := 14) 8 7 13 [6]); kernel_rfl; kernel_rfl; kernel_rfl; (intro _ _ _ _ _ h; exact h); rfl; decide; rfl; (intro _ _; go_simp; rfl); intro x; (try simp only [List.append_eq, List.cons_append, List.nil_append]); (simp only [List.take_succ_cons, List.take_zero, List.drop_succ_cons, List.drop_zero, skipAt, Nat.reduceAdd, Nat.reduceEqDiff, reduceIte, Nat.zero_add]); (repeat (any_goals (first | go_big_quiet_step (fail) | quiet_step (fail)))); (with_reducible refine wpQuiet_nil ?_); intro r1 r2) | ((with_reducible show Code.wp _ (Code.region 15 _ true) _ _ _); (with_reducible apply wp_more_late_m (id := 15) 8 7 15 [6]); kernel_rfl; kernel_rfl; kernel_rfl; (intro _ _ _ _ _ h; exact h); rfl; decide; rfl; (intro _ _; go_simp; rfl); intro x; (try simp only [List.append_eq, List.cons_append, List.nil_append]); (simp only [List.take_succ_cons, List.take_zero, List.drop_succ_cons, List.drop_zero, skipAt, Nat.reduceAdd, Nat.reduceEqDiff, reduceIte, Nat.zero_add]); (repeat (any_goals (first | go_big_quiet_step (fail) | quiet_step (fail)))); (with_reducible refine wpQuiet_nil ?_); intro r1 r2) | ((with_reducible show Code.wp _ (Code.region 15 _ true) _ _ _); (with_reducible apply wp_more_late (id := 15) 8 7 15 [6]); kernel_rfl; kernel_rfl; kernel_rfl; (intro _ _ _ _ _ h; exact h); rfl; decide; rfl; (intro _ _; go_simp; rfl); intro x; (try simp only [List.append_eq, List.cons_append, List.nil_append]); (simp only [List.take_succ_cons, List.take_zero, List.drop_succ_cons, List.drop_zero, skipAt, Nat.reduceAdd, Nat.reduceEqDiff, reduceIte, Nat.zero_add]); (repeat (any_goals (first | go_big_quiet_step (fail) | quiet_step (fail)))); (with_reducible refine wpQuiet_nil ?_); intro r1 r2) | ((with_reducible show Code.wp _ (Code.region 18 _ true) _ _ _); (with_reducible refine wp_more_quick_m (id := 18) ?_ ?_ ?_); kernel_rfl; kernel_rfl; (try simp only [List.take_succ_cons, List.take_zero, List.drop_succ_cons, List.drop_zero]); (repeat (any_goals (first | go_big_quiet_step (fail) | quiet_step (fail)))); (with_reducible refine wpQuiet_nil ?_); intro r) | ((with_reducible show Code.wp _ (Code.region 18 _ true) _ _ _); (with_reducible refine wp_more_quick (id := 18) ?_ ?_ ?_); kernel_rfl; kernel_rfl; (try simp only [List.take_succ_cons, List.take_zero, List.drop_succ_cons, List.drop_zero]); (repeat (any_goals (first | go_big_quiet_step (fail) | quiet_step (fail)))); (with_reducible refine wpQuiet_nil ?_); intro r) | ((with_reducible show Code.wp _ (Code.region 23 _ true) _ _ _); (with_reducible refine wp_more_quick_m (id := 23) ?_ ?_ ?_); kernel_rfl; kernel_rfl; (try simp only [List.take_succ_cons, List.take_zero, List.drop_succ_cons, List.drop_zero]); (repeat (any_goals (first | go_big_quiet_step (fail) | quiet_step (fail)))); (with_reducible refine wpQuiet_nil ?_); intro r) | ((with_reducible show Code.wp _ (Code.region 23 _ true) _ _ _); (with_reducible refine wp_more_quick (id := 23) ?_ ?_ ?_); kernel_rfl; kernel_rfl; (try simp only [List.take_succ_cons, List.take_zero, List.drop_succ_cons, List.drop_zero]); (repeat (any_goals (first | go_big_quiet_step (fail) | quiet_step (fail)))); (with_reducible refine wpQuiet_nil ?_); intro r))
                go_roundw
                case rel => exact ⟨k + 1, by omega, rfl, (by repeat (first | exact More.refl _ | refine More.alloc ?_ _ | refine More.more ?_ _ | refine More.drew ?_ | refine More.drewN ?_ _))⟩
                case measure => simp [intOf] <;> omega
              · obtain rfl : k = fcs.length := by omega
                go_wp2_with (first | (first | (go_at_call 17; (with_reducible refine (right_c _ _).mono ?_); rintro e w' ⟨rfl, r, rfl⟩) | (go_at_call 17; (with_reducible refine (right_c ⟨_, _, _⟩ _).mono ?_); rintro e w' ⟨rfl, r, rfl⟩)))
                go_returns
                exact ⟨rfl, HM.out.trans (by repeat (first | exact More.refl _ | refine More.alloc ?_ _ | refine More.more ?_ _ | refine More.drew ?_ | refine More.drewN ?_ _))⟩
          · go_wp2_with (first | (go_at_call 7; (refine Calls.mono (known13_c _ (HT.out.up (by repeat (first | exact More.refl _ | refine More.alloc ?_ _ | refine More.more ?_ _ | refine More.drew ?_ | refine More.drewN ?_ _)))) ?_); rintro e w' ⟨rfl, r8, rfl⟩))
            go_returns
            exact ⟨rfl, HM.out.trans (by repeat (first | exact More.refl _ | refine More.alloc ?_ _ | refine More.more ?_ _ | refine More.drew ?_ | refine More.drewN ?_ _))⟩
end Go.Proofs.YtekhhekkepijoaaGreatDoor

