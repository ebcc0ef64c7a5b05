/-
  A list of glasses that is read, as a row of its own; several elements behind it.
-/
import Derived.Test.YtgikjbmaahblpaaGreatDoorGlassRdW
import Derived.Test.YtgikjbmaahblpaaGreatDoorGh
import Derived.Test.YtgikjbmaahblpaaGreatDoorLensRdr
import Derived.Maps.AppendAt
namespace Go.Proofs.YtgikjbmaahblpaaGreatDoor
set_option linter.unusedVariables false
open Go.ChangeShapes Go.WideShapes Go.ChangeAt Go.RowKit

theorem ownW_nil {e : TypeId} {m : Nat} (X : World) : OwnW X X X.heap.size e m (.slice none 0 0) 0 [] := ⟨⟨#[], X.drawn⟩, (more_self _).symm, OwnS.nil _ _ _ _⟩
theorem flat_at {α : Type} {f : α → List Value} {m : Nat} (hf : ∀ a, (f a).length = m) : ∀ (l : List α) (j : Nat) (u : Value), (flatC f l)[j]? = some u → ∃ k a i, l[k]? = some a ∧ (f a)[i]? = some u ∧ j = k * m + i
  | [], j, u, h => by simp [flatC] at h
  | b :: r, j, u, h => by
    have e : flatC f (b :: r) = f b ++ flatC f r := by simp [flatC]
    rw [e] at h
    by_cases hj : j < (f b).length
    · rw [List.getElem?_append_left hj] at h
      exact ⟨0, b, j, rfl, h, by omega⟩
    · rw [List.getElem?_append_right (by omega)] at h
      obtain ⟨k, a, i, h1, h2, h3⟩ := flat_at hf r _ u h
      refine ⟨k + 1, a, i, h1, h2, ?_⟩
      have := hf b
      rw [Nat.add_mul]
      omega
theorem wpList_append_many {P : Program} {W2 w1 : World} {ops : Array Oper} {rest : List Oper} {o : Oper} {a : Act} {Q : Exit → Act → World → Prop}
    (hg : o.guard = none) (sl x : Operand) (t : TypeId) (hop : o.op = Op.call { callee := Callee.builtin Builtin.append, args := #[sl, x], argTypes := #[t, t] })
    (e : TypeId) (i : TypeInfo) (z : Value) (size bytes : Nat) (h1 : P.underlying t = some (.slice e)) (h2 : P.info? e = some i) (h3 : i.zero = some z) (h4 : i.size = size) (h5 : i.bytes = bytes) (h6 : z.cells.size = size) (h7 : 0 < size)
    (v : Value) (n : Nat) (xs : List Value) (hs : a.eval sl = v) (hown : OwnW W2 w1 W2.heap.size e size v n xs)
    (ad : Addr) (m c : Nat) (news : List Value) (hx : a.eval x = .slice (some ad) m c) (hl : news.length = m * size) (hnews : ∀ j u, news[j]? = some u → w1.cell? (ad.add j) = some u) (h1c : ∀ u ∈ news, u.oneCell' = true)
    (b1 : n + m ≤ maxLen) (b2 : (n + m) * bytes ≤ 140737488355328)
    (hK : ∀ v' w', OwnW W2 w' W2.heap.size e size v' (n + m) (xs ++ news) → wpList P ops Q rest (a.put o.dst v') w') :
    wpList P ops Q (o :: rest) a w1 := by
  obtain ⟨s, rfl, h⟩ := hown
  have hw := h W2 rfl
  refine wpList_append_own_at _ hg sl x t hop W2.heap.size e i z size bytes h1 h2 h3 h4 h5 h6 h7 v n xs hs hw ad m c news hx hl hnews h1c b1 b2 (by simp) ?_
  intro v' w' ho hgr _ _
  have hbl : Below W2.heap.size W2 w' := by
    have h0 : Below W2.heap.size W2 (more W2 s) := (More.more (More.refl W2) s).below
    exact h0.grown hgr (by simp) (fun g hg => (hw.lt g hg).1)
  obtain ⟨s', rfl⟩ := more_of_below hbl
  exact hK v' _ ⟨s', rfl, OwnS.of rfl ho⟩
theorem readOk_c (s : List UInt8) (g : Value) (G : List Gl) (x : Ln) (W : World) (hz : s.length ≤ 9223372036854775807) (hg : Gls W g G) (hG : G.length ≤ 1000000) (hr : readLn (G.map Gl.name) s = .ok x) :
    Calls Tryz.prog 12 #[.string (bsOf s), g] W fun en w' => ∃ la lc, en = .returned (.tuple #[lnV x (.slice la x.faces.length lc), .complex .f64 0 0, .int .i64 0]) ∧ More W w' ∧ Fcs w' (.slice la x.faces.length lc) x.faces := by
  have h := readl_c s g G W hz hg hG
  rw [hr] at h
  refine h.mono ?_
  rintro en w' ⟨lv2, rfl, h2, h3⟩
  dsimp only [okL] at h3
  obtain ⟨la, lc, rfl, -⟩ := grow_form fcs_pos h3
  refine ⟨la, lc, ?_, h2, h3⟩
  show Ending.returned (.tuple #[_, plV2 0 0, _]) = _
  rw [plV2_zero]
  rfl
theorem readNo_c (s : List UInt8) (g : Value) (G : List Gl) (f : Flt) (W : World) (hz : s.length ≤ 9223372036854775807) (hg : Gls W g G) (hG : G.length ≤ 1000000) (hr : readLn (G.map Gl.name) s = .error f) :
    Calls Tryz.prog 12 #[.string (bsOf s), g] W fun en w' => ∃ la lc, en = .returned (.tuple #[.agg #[.string ⟨#[]⟩, .int .i64 0, .int .i64 0, .slice la 0 lc], .complex .f64 (nw f.line) (nw f.col), .int .i64 f.err]) ∧ More W w' := by
  have h := readl_c s g G W hz hg hG
  rw [hr] at h
  refine h.mono ?_
  rintro en w' ⟨lv2, rfl, h2, h3⟩
  dsimp only [okL] at h3
  obtain ⟨la, lc, rfl, -⟩ := grow_form fcs_pos h3
  exact ⟨la, lc, rfl, h2⟩

set_option maxHeartbeats 16000000 in
set_option maxRecDepth 100000 in
theorem readgo_c (s : List UInt8) (hz : s.length ≤ 9223372036854775807) (W : World) : Calls Tryz.prog 16 #[.string (bsOf s)] W fun e w' => ∃ v' X, e = .returned (.tuple #[v', plV2 (readG s).line (readG s).col, .int .i64 (readG s).err]) ∧ More W X ∧ OwnW X w' X.heap.size 50 13 v' (readG s).l.length (flatC cellsG (readG s).l) := by
  obtain ⟨R, hR⟩ : ∃ R, readG s = R := ⟨_, rfl⟩
  rw [hR]
  obtain ⟨hends, htexts⟩ := lexP_ends s
  obtain ⟨⟨tk, L, C, E⟩, hx⟩ : ∃ x, lexP s = x := ⟨_, rfl⟩
  unfold readG at hR
  rw [hx] at hR hends htexts
  dsimp only at hR hends htexts
  obtain ⟨i0, hi, hz0, hz1, hz2⟩ := info_parts info_gs
  go_enter Tryz.func16, Tryz.ntmps16
  go_wp2_with fail
  go_at_call 44
  refine Calls.mono (tokens_x s hx hz _) ?_
  rintro e w' ⟨v', rfl, hM, hr⟩
  dsimp only at hr
  obtain ⟨ao, c, rfl, -⟩ := grow_form (fun _ => by rw [tk3_len]; decide) hr
  by_cases hE : E = 0
  · subst hE
    rw [if_pos rfl] at hR
    have HMW := Lib.hid hM
    have HTK := Lib.hid hr
    clear hM hr hx
    go_wp2_with fail
    go_loopw [5, 8] (fun v l wr => ∃ (n : Nat) (ts : List Tk) (acc : List Gl) (lv : Value), lv = l ∧ GRow tk3 3 w' v ts ∧ OwnW w' wr w'.heap.size 50 13 l acc.length (flatC cellsG acc) ∧ unended ts = false ∧ (∀ t ∈ ts, t.text.length ≤ 4000) ∧ ts.length < n ∧ readF n ts acc = R ∧ acc.length ≤ 30) (fun v _ _ => lenOf v)
    case atStart => exact ⟨_, tk, [], _, rfl, HTK.out, ⟨⟨#[], w'.drawn⟩, (more_self _).symm, OwnS.nil _ _ _ _⟩, hends, htexts, Nat.lt_succ_self _, hR, by simp⟩
    case round =>
      obtain ⟨n, ts, acc, lv, rfl, hG, hO, hu, ht, hn, hF, ha⟩ := hrel
      obtain ⟨ao, c, rfl, -⟩ := grow_form (fun _ => by rw [tk3_len]; decide) hG
      have hcap := (grow_cap hG).2
      obtain ⟨n, rfl⟩ : ∃ m, n = m + 1 := ⟨n - 1, by omega⟩
      have HG := Lib.hid hG
      have HO := Lib.hid hO
      have HU := Lib.hid hu
      have HT := Lib.hid ht
      have HF := Lib.hid hF
      clear hG hO hu ht hF hR hends htexts
      by_cases h0 : ts = []
      · subst h0
        go_wp2_with fail
        go_returns
        have hF := HF.out
        unfold readF at hF
        rw [if_pos rfl] at hF
        subst hF
        refine ⟨_, _, ?_, HMW.out, HO.out⟩
        show _ = Ending.returned (.tuple #[lv, plV2 0 0, .int .i64 ((0 : Nat) : Int)])
        rw [plV2_zero]
        rfl
      · have hpos : 0 < ts.length := List.length_pos_iff.2 h0
        have hd0 : decide (0 < ((ts.length : Nat) : Int)) = true := decide_eq_true (by omega)
        have hF := HF.out
        unfold readF at hF
        rw [if_neg h0] at hF
        have HF2 := Lib.hid hF
        clear hF
        go_wp2_with fail
        go_loopw [24] (fun x wq => ∃ k : Nat, k ≤ 9 ∧ x = .int .i64 k ∧ (∀ j, j < k → faultG j (tkAt ts j) acc = 0) ∧ OwnW w' wq w'.heap.size 50 13 lv acc.length (flatC cellsG acc)) (fun x _ => 9 - (intOf x).toNat)
        case atStart => exact ⟨0, by omega, rfl, fun j hj => by omega, HO.out⟩
        case round =>
          obtain ⟨k, hk, rfl, hf, hW⟩ := hrel
          have HW := Lib.hid hW
          have HFT := Lib.hid hf
          clear hW hf
          by_cases hk9 : k < 9
          · have hlt : k < ts.length := more_tokens HU.out h0 (by omega) HFT.out
            have hts := tkAt_some hlt
            obtain ⟨t, htk⟩ : ∃ t, tkAt ts k = t := ⟨_, rfl⟩
            rw [htk] at hts
            have htl : t.text.length ≤ 1000000 := by have := HT.out t (List.mem_of_getElem? hts); omega
            have hgr := HG.out.up HW.out.mono
            obtain ⟨b, o, rfl, hb, hd⟩ := grow_at hgr hts (by rw [tk3_len]; decide)
            have c0 := hd 0 _ rfl
            have c1 := hd 1 _ rfl
            have c2 := hd 2 _ rfl
            rw [Nat.add_zero] at c0
            have HTK2 := Lib.hid htk
            clear hd hgr hts htk
            have hgl := HW.out.gls
            go_wp2_with fail
            go_at_call 47
            refine Calls.mono (fault_c k t lv acc _ (by omega) hgl (by omega) htl) ?_
            rintro e w' ⟨rfl, r, rfl⟩
            by_cases hfa : faultG k t acc = 0
            · have hq : ((faultG k t acc : Int) != 0) = false := by simp; omega
              have HFA := Lib.hid hfa
              clear hfa
              go_wp2_with (first | ((with_reducible show Code.wp _ (Code.region 11 _ true) _ _ _); (with_reducible refine wp_more_quick_m (id := 11) ?_ ?_ ?_); kernel_rfl; kernel_rfl; (try simp only [List.take_succ_cons, List.take_zero, List.drop_succ_cons, List.drop_zero]); (repeat (any_goals (first | go_big_quiet_step (fail) | quiet_step (fail)))); (with_reducible refine wpQuiet_nil ?_); intro r) | ((with_reducible show Code.wp _ (Code.region 11 _ true) _ _ _); (with_reducible refine wp_more_quick (id := 11) ?_ ?_ ?_); kernel_rfl; kernel_rfl; (try simp only [List.take_succ_cons, List.take_zero, List.drop_succ_cons, List.drop_zero]); (repeat (any_goals (first | go_big_quiet_step (fail) | quiet_step (fail)))); (with_reducible refine wpQuiet_nil ?_); intro r) | ((with_reducible show Code.wp _ (Code.region 13 _ true) _ _ _); (with_reducible refine wp_more_quick_m (id := 13) ?_ ?_ ?_); kernel_rfl; kernel_rfl; (try simp only [List.take_succ_cons, List.take_zero, List.drop_succ_cons, List.drop_zero]); (repeat (any_goals (first | go_big_quiet_step (fail) | quiet_step (fail)))); (with_reducible refine wpQuiet_nil ?_); intro r) | ((with_reducible show Code.wp _ (Code.region 13 _ true) _ _ _); (with_reducible refine wp_more_quick (id := 13) ?_ ?_ ?_); kernel_rfl; kernel_rfl; (try simp only [List.take_succ_cons, List.take_zero, List.drop_succ_cons, List.drop_zero]); (repeat (any_goals (first | go_big_quiet_step (fail) | quiet_step (fail)))); (with_reducible refine wpQuiet_nil ?_); intro r))
              go_roundw
              case rel => exact ⟨k + 1, by omega, rfl, nat_up HFT.out (by rw [HTK2.out]; exact HFA.out), HW.out.more _⟩
              case measure => simp [intOf] <;> omega
            · have hq : ((faultG k t acc : Int) != 0) = true := by simp; omega
              have HFA := Lib.hid hfa
              clear hfa
              go_wp2_with (first | ((with_reducible show Code.wp _ (Code.region 11 _ true) _ _ _); (with_reducible refine wp_more_quick_m (id := 11) ?_ ?_ ?_); kernel_rfl; kernel_rfl; (try simp only [List.take_succ_cons, List.take_zero, List.drop_succ_cons, List.drop_zero]); (repeat (any_goals (first | go_big_quiet_step (fail) | quiet_step (fail)))); (with_reducible refine wpQuiet_nil ?_); intro r) | ((with_reducible show Code.wp _ (Code.region 11 _ true) _ _ _); (with_reducible refine wp_more_quick (id := 11) ?_ ?_ ?_); kernel_rfl; kernel_rfl; (try simp only [List.take_succ_cons, List.take_zero, List.drop_succ_cons, List.drop_zero]); (repeat (any_goals (first | go_big_quiet_step (fail) | quiet_step (fail)))); (with_reducible refine wpQuiet_nil ?_); intro r) | ((with_reducible show Code.wp _ (Code.region 13 _ true) _ _ _); (with_reducible refine wp_more_quick_m (id := 13) ?_ ?_ ?_); kernel_rfl; kernel_rfl; (try simp only [List.take_succ_cons, List.take_zero, List.drop_succ_cons, List.drop_zero]); (repeat (any_goals (first | go_big_quiet_step (fail) | quiet_step (fail)))); (with_reducible refine wpQuiet_nil ?_); intro r) | ((with_reducible show Code.wp _ (Code.region 13 _ true) _ _ _); (with_reducible refine wp_more_quick (id := 13) ?_ ?_ ?_); kernel_rfl; kernel_rfl; (try simp only [List.take_succ_cons, List.take_zero, List.drop_succ_cons, List.drop_zero]); (repeat (any_goals (first | go_big_quiet_step (fail) | quiet_step (fail)))); (with_reducible refine wpQuiet_nil ?_); intro r))
              go_returns
              have hst := lineF_stop (ts := ts) (l := acc) k 9 0 (fun j _ hj => HFT.out j (by omega)) (by rw [Nat.zero_add, HTK2.out]; exact HFA.out) (by omega)
              rw [Nat.zero_add, HTK2.out] at hst
              have hF := HF2.out
              rw [hst] at hF
              subst hF
              exact ⟨_, _, rfl, (HMW.out.trans HW.out.mono).trans (by repeat (first | exact More.refl _ | refine More.alloc ?_ _ | refine More.more ?_ _ | refine More.drew ?_ | refine More.drewN ?_ _)), ownW_nil _⟩
          · obtain rfl : k = 9 := by omega
            have h9 : 8 < ts.length := more_tokens HU.out h0 (by omega) fun j hj => HFT.out j (by omega)
            have hgr := HG.out.up HW.out.mono
            obtain ⟨b, o, rfl, hb, -⟩ := grow_at hgr (tkAt_some (show 0 < ts.length by omega)) (by rw [tk3_len]; decide)
            have k1 := gcell hgr (tkAt_some (show 1 < ts.length by omega)) 1 _ rfl
            have k2 := gcell hgr (tkAt_some (show 2 < ts.length by omega)) 1 _ rfl
            have k3 := gcell hgr (tkAt_some (show 3 < ts.length by omega)) 1 _ rfl
            have k4 := gcell hgr (tkAt_some (show 4 < ts.length by omega)) 1 _ rfl
            have k5 := gcell hgr (tkAt_some (show 5 < ts.length by omega)) 1 _ rfl
            have k6 := gcell hgr (tkAt_some (show 6 < ts.length by omega)) 1 _ rfl
            have k7 := gcell hgr (tkAt_some (show 7 < ts.length by omega)) 1 _ rfl
            have z : ∀ j, j < ts.length → (tkAt ts j).text.length ≤ 4000 := fun j hj => HT.out _ (List.mem_of_getElem? (tkAt_some hj))
            have z2 := z 2 (by omega)
            have z3 := z 3 (by omega)
            have z4 := z 4 (by omega)
            have z5 := z 5 (by omega)
            have z6 := z 6 (by omega)
            have z7 := z 7 (by omega)
            clear z hgr
            obtain ⟨x1, e1⟩ : ∃ x, (tkAt ts 1).text = x := ⟨_, rfl⟩
            obtain ⟨x2, e2⟩ : ∃ x, (tkAt ts 2).text = x := ⟨_, rfl⟩
            obtain ⟨x3, e3⟩ : ∃ x, (tkAt ts 3).text = x := ⟨_, rfl⟩
            obtain ⟨x4, e4⟩ : ∃ x, (tkAt ts 4).text = x := ⟨_, rfl⟩
            obtain ⟨x5, e5⟩ : ∃ x, (tkAt ts 5).text = x := ⟨_, rfl⟩
            obtain ⟨x6, e6⟩ : ∃ x, (tkAt ts 6).text = x := ⟨_, rfl⟩
            obtain ⟨x7, e7⟩ : ∃ x, (tkAt ts 7).text = x := ⟨_, rfl⟩
            rw [e1] at k1
            rw [e2] at k2 z2
            rw [e3] at k3 z3
            rw [e4] at k4 z4
            rw [e5] at k5 z5
            rw [e6] at k6 z6
            rw [e7] at k7 z7
            have hmade : madeG (tkAt ts 1).text ((ts.drop 2).take 6) = ⟨x1, (readP x2).1, (readP x4).1, (readP x6).1, (readP x3).1, (readP x5).1, (readP x7).1⟩ := by
              unfold madeG
              rw [tkAt_sub 0 (by omega), tkAt_sub 1 (by omega), tkAt_sub 2 (by omega), tkAt_sub 3 (by omega), tkAt_sub 4 (by omega), tkAt_sub 5 (by omega), e1, e2, e3, e4, e5, e6, e7]
            have hnone := lineF_skip (ts := ts) (l := acc) 9 0 fun j _ hj => HFT.out j (by omega)
            have hF := HF2.out
            rw [hnone, hmade] at hF
            have ha30 : acc.length < 30 := by
              have h1 := HFT.out 1 (by omega)
              unfold faultG at h1
              split at h1
              · omega
              · rw [if_neg (by decide), if_pos rfl] at h1
                split at h1
                · omega
                split at h1
                · omega
                split at h1
                · omega
                · omega
            have HN := Lib.hid hF
            have hsix : ∀ (r : Rest) (cc : Nat), Six6 (more wr r) (.slice (some ⟨b, o + 6, none⟩) 6 cc) x2 x3 x4 x5 x6 x7 := fun r cc => ⟨⟨b, o + 6, cc, rfl, by rw [size_more]; omega, by rw [cell_more _ _ _ _ hb]; exact k2, by rw [cell_more _ _ _ _ hb]; exact k3, by rw [cell_more _ _ _ _ hb]; exact k4, by rw [cell_more _ _ _ _ hb]; exact k5, by rw [cell_more _ _ _ _ hb]; exact k6, by rw [cell_more _ _ _ _ hb]; exact k7⟩⟩
            have k1' : wr.cell? ⟨b, o + 4, none⟩ = some (.string (bsOf x1)) := k1
            have HS := Lib.hid hsix
            clear k1 k2 k3 k4 k5 k6 k7 e1 e2 e3 e4 e5 e6 e7 hmade hnone hF hsix
            have q1 : (1 : Int) < ((ts.length : Nat) : Int) := by omega
            have q8 : (8 : Int) ≤ ((c : Nat) : Int) := by omega
            have hc2 : ¬ c = 2 := by omega
            have q9 : (9 : Int) ≤ ((ts.length : Nat) : Int) := by omega
            go_wp2_with fail
            (first | (with_reducible refine wp_more_loose_tail_m (id := 13) 9 ?_ ?_ ?_ ?_ ?_) | (refine wp_more_loose_tail (id := 13) 9 ?_ ?_ ?_ ?_ ?_))
            · kernel_rfl
            · kernel_rfl
            · kernel_rfl
            · kernel_rfl
            simp only [List.take_succ_cons, List.take_zero, List.drop_succ_cons, List.drop_zero]
            (repeat (first | (refine loose_make 51 (OneAt 50 (cellsG ⟨x1, (readP x2).1, (readP x4).1, (readP x6).1, (readP x3).1, (readP x5).1, (readP x7).1⟩)) rfl rfl (by simp) rfl (OneAt.up) (fun r => ?_) ?_; (go_simp; exact ⟨More.alloc (More.refl _) _, OneAt.new⟩)) | (refine loose_step rfl (fun K9 hK9 => ?_); go_simp; first | (refine hK9 _ ?_; clear hK9 K9) | (apply Exists.intro; refine ⟨fun _ => ?_, hK9 _ ?_⟩; ((first | (go_at_call 48; exact made_c x1 x2 x3 x4 x5 x6 x7 _ _ (HS.out _ _) z2 z3 z4 z5 z6 z7))); clear hK9 K9))))
            intro r
            simp only [allFits]
            rintro u ⟨b9, rfl, hb9⟩
            obtain ⟨ts', hts'⟩ : ∃ t, ts.drop 9 = t := ⟨_, rfl⟩
            have hl' : ts.length - 9 = ts'.length := by rw [← hts', List.length_drop]
            have hdr : ∃ a9, (if c = 9 then some (⟨b, o, none⟩ : Addr) else some ⟨b, o + 27, none⟩) = a9 ∧ GRow tk3 3 w' (.slice a9 ts'.length (c - 9)) ts' := by
              rw [← hts', List.length_drop]
              by_cases hc9 : c = 9
              · have hz9 : ts.length = 9 := by omega
                refine ⟨_, rfl, ?_⟩
                rw [if_pos hc9, List.drop_of_length_le (by omega), hz9]
                exact .inr ⟨b, o, c - 9, rfl, by simp, fun k a h => by simp at h⟩
              · refine ⟨_, rfl, ?_⟩
                rw [if_neg hc9]
                exact HG.out.drop (k := 9) (by omega) (by omega)
            obtain ⟨a9, ha9, hg9⟩ := hdr
            have HG9 := Lib.hid hg9
            clear hg9
            go_wp2_with (first | (at_builtin; refine wpList_append_any rfl (.tmp 43) (.tmp 51) 24 rfl 50 i0 _ 13 112 und_gs hi hz0 hz1 hz2 rfl (by decide) _ acc.length (flatC cellsG acc) rfl (HW.out.more _) (cellsG ⟨x1, (readP x2).1, (readP x4).1, (readP x6).1, (readP x3).1, (readP x5).1, (readP x7).1⟩) 1 _ rfl hb9 rfl (cellsG_one _) (by simp only [maxLen]; omega) (by omega) ?_; intro v2 w2 hown2; have HO2 := Lib.hid hown2.snoc; clear hown2))
            go_roundw
            case rel => exact ⟨n, ts', _, v2, rfl, HG9.out, HO2.out, by rw [← hts']; exact unended_drop HU.out 9, fun t ht => HT.out t (by rw [← hts'] at ht; exact List.mem_of_mem_drop ht), by omega, by rw [← hts']; exact HN.out, by rw [List.length_append, List.length_singleton]; omega⟩
            case measure => simp only [lenOf]; omega
  · rw [if_neg hE] at hR
    have hq : ((E : Int) != 0) = true := by simp; omega
    go_wp2_with fail
    go_returns
    subst hR
    exact ⟨_, _, rfl, hM, ownW_nil _⟩


end Go.Proofs.YtgikjbmaahblpaaGreatDoor

