/-
  A lens's reader in memory: a face, a stop, a line.
-/
import Derived.Test.YtekhhekkepijoaaGreatDoorGm
namespace Go.Proofs.YtekhhekkepijoaaGreatDoor
set_option linter.unusedVariables false
open Go.ChangeShapes Go.WideShapes Go.ChangeAt Go.RowKit

theorem strs_new (ws : List (List UInt8)) {w : World} {e : TypeId} {b : Nat} (hb : b = w.heap.size) (xs : Array Value) (hx : xs = (flatC str1 ws).toArray) (n : Nat) (hn : n = ws.length) : Strs (w.alloc (.cells xs e)) (.slice (some ⟨b, 0, none⟩) n n) ws := by
  subst hx hn
  refine .inr ⟨b, 0, ws.length, rfl, Nat.le_refl _, fun k a hk j u hu => ?_⟩
  have h1 := flatC_at str1 1 str1_len ws k a hk j u hu
  have h2 := new_row (w := w) (e := e) (b := b) (flatC str1 ws) hb _ _ h1
  rwa [Addr.add_lit] at h2

set_option maxHeartbeats 4000000 in
theorem reach_c (r a : Dec) (h0 : -100000000000 ≤ r.c) (h1 : r.c ≤ 100000000000) (W : World) :
    Calls Tryz.prog 98 #[decV r, decV a] W fun e w' => e = .returned (.bool (reachB r a)) ∧ More W w' := by
  obtain ⟨c, s⟩ := r
  dsimp only at h0 h1
  obtain ⟨V, hV⟩ : ∃ V, reachB ⟨c, s⟩ a = V := ⟨_, rfl⟩
  rw [hV]
  unfold reachB at hV
  dsimp only at hV
  by_cases hc : c = 0
  · have hq : (c == 0) = true := by simpa using hc
    rw [decide_eq_true hc, Bool.true_or] at hV
    subst hV hc
    go_enter Tryz.func98, Tryz.ntmps98
    go_wp2_with (first | (go_at_call 110; (with_reducible refine (decLess_c _ _ _).mono ?_); rintro e w' ⟨rfl, r, rfl⟩) | (go_at_call 110; (with_reducible refine (decLess_c _ ⟨_, _⟩ _).mono ?_); rintro e w' ⟨rfl, r, rfl⟩) | (go_at_call 110; (with_reducible refine (decLess_c ⟨_, _⟩ _ _).mono ?_); rintro e w' ⟨rfl, r, rfl⟩) | (go_at_call 110; (with_reducible refine (decLess_c ⟨_, _⟩ ⟨_, _⟩ _).mono ?_); rintro e w' ⟨rfl, r, rfl⟩))
    go_returns
    exact ⟨rfl, (by repeat (first | exact More.refl _ | refine plus_more ?_ | refine More.alloc ?_ _ | refine More.more ?_ _ | refine More.drew ?_ | refine More.drewN ?_ _))⟩
  · have hq : (c == 0) = false := by simpa using hc
    rw [decide_eq_false hc, Bool.false_or, ← dec_same] at hV
    have HV := Lib.hid hV
    clear hV hc
    obtain ⟨m, hm⟩ : ∃ m, max c (-c) = m := ⟨_, rfl⟩
    rw [hm] at HV
    go_enter Tryz.func98, Tryz.ntmps98
    go_wp2_with (first | (go_at_call 110; (with_reducible refine (decLess_c _ _ _).mono ?_); rintro e w' ⟨rfl, r, rfl⟩) | (go_at_call 110; (with_reducible refine (decLess_c _ ⟨_, _⟩ _).mono ?_); rintro e w' ⟨rfl, r, rfl⟩) | (go_at_call 110; (with_reducible refine (decLess_c ⟨_, _⟩ _ _).mono ?_); rintro e w' ⟨rfl, r, rfl⟩) | (go_at_call 110; (with_reducible refine (decLess_c ⟨_, _⟩ ⟨_, _⟩ _).mono ?_); rintro e w' ⟨rfl, r, rfl⟩))
    go_returns
    exact ⟨by rw [← HV.out]; rfl, (by repeat (first | exact More.refl _ | refine plus_more ?_ | refine More.alloc ?_ _ | refine More.more ?_ _ | refine More.drew ?_ | refine More.drewN ?_ _))⟩

set_option maxHeartbeats 4000000 in
set_option maxRecDepth 100000 in
theorem stop_m (X : World) (v : Value) (σ : RdS) {W : World} {W' : Value → World} {R : Rest} (hm : RdMoved X v σ (stopS σ).2 W W' R) (hf : FineS σ) (hv : GRow tk3 3 X v σ.ts) :
    Calls Tryz.prog 80 #[.pointer (some ⟨X.heap.size, 0, none⟩)] W fun en w' => en = .returned (fcV (stopS σ).1) ∧ ∃ v', More (W' v') w' ∧ GRow tk3 3 X v' (stopS σ).2.ts := by
  obtain ⟨rfl, hW'⟩ := hm.form
  clear hm
  have HW := Lib.hid hW'
  clear hW'
  obtain ⟨⟨⟨c1, s1⟩, σ1⟩, e1⟩ : ∃ x, posS σ = x := ⟨_, rfl⟩
  obtain ⟨⟨⟨c2, s2⟩, σ2⟩, e2⟩ : ∃ x, thkS σ1 = x := ⟨_, rfl⟩
  have f1 : FineS σ1 := by
    have := hf.pos
    rwa [e1] at this
  have es : stopS σ = (⟨true, D0, ⟨c1, s1⟩, ⟨c2, s2⟩, D0, D0, D0, []⟩, σ2) := by unfold stopS; rw [e1]; dsimp only; rw [e2]
  have HE := Lib.hid es
  have H1 := Lib.hid e1
  have H2 := Lib.hid e2
  clear e1 e2 es
  go_enter Tryz.func80, Tryz.ntmps80
  go_wp2_with fail
  go_at_call 54
  refine Calls.mono (above_m X v σ (by intro v'; (repeat (first | exact Moved.self | apply Moved.alloc | apply Moved.more | apply Moved.drew))) hf hv) ?_
  rintro en w' ⟨rfl, v1, ⟨r1, rfl⟩, h1⟩
  rw [H1.out] at h1 ⊢
  dsimp only at h1 ⊢
  go_wp2_with fail
  go_at_call 97
  refine Calls.mono (thick_m X v1 σ1 (by intro v'; (repeat (first | exact Moved.self | apply Moved.alloc | apply Moved.more | apply Moved.drew))) f1 h1) ?_
  rintro en w' ⟨rfl, v2, ⟨r2, rfl⟩, h2⟩
  rw [H2.out] at h2 ⊢
  dsimp only at h2 ⊢
  have HV := Lib.hid h2
  clear h2 h1
  go_wp2_with fail
  go_returns
  rw [HE.out]
  refine ⟨rfl, v2, ?_, HV.out⟩
  rw [HW.out, HE.out]
  exact (by repeat (first | exact More.refl _ | refine plus_more ?_ | refine More.alloc ?_ _ | refine More.more ?_ _ | refine More.drew ?_ | refine More.drewN ?_ _))

set_option maxHeartbeats 16000000 in
set_option maxRecDepth 100000 in
theorem face_m (g : Value) (G : List Gl) (X : World) (v : Value) (σ : RdS) {W : World} {W' : Value → World} {R : Rest} (hm : RdMoved X v σ (faceS (G.map Gl.name) σ).2 W W' R) (hg : Gls X g G) (hG : G.length ≤ 1000000) (hf : FineS σ) (hv : GRow tk3 3 X v σ.ts) :
    Calls Tryz.prog 81 #[.pointer (some ⟨X.heap.size, 0, none⟩), g] W fun en w' => en = .returned (fcV (faceS (G.map Gl.name) σ).1) ∧ ∃ v', More (W' v') w' ∧ GRow tk3 3 X v' (faceS (G.map Gl.name) σ).2.ts := by
  obtain ⟨rfl, hW'⟩ := hm.form
  clear hm
  have HW := Lib.hid hW'
  clear hW'
  obtain ⟨names, hnames⟩ : ∃ names, G.map Gl.name = names := ⟨_, rfl⟩
  have HN := Lib.hid hnames
  rw [hnames] at HW ⊢
  clear hnames
  obtain ⟨⟨⟨c1, s1⟩, ⟨kd, tx, L, C⟩, σ1⟩, e1⟩ : ∃ x, numS σ = x := ⟨_, rfl⟩
  obtain ⟨⟨⟨c2, s2⟩, σ2⟩, e2⟩ : ∃ x, posS σ1 = x := ⟨_, rfl⟩
  obtain ⟨σ3, e3⟩ : ∃ x, rchS ⟨c1, s1⟩ ⟨kd, tx, L, C⟩ ⟨c2, s2⟩ σ2 = x := ⟨_, rfl⟩
  obtain ⟨⟨⟨c3, s3⟩, σ4⟩, e4⟩ : ∃ x, thkS σ3 = x := ⟨_, rfl⟩
  obtain ⟨⟨gl, σ5⟩, e5⟩ : ∃ x, glsS names σ4 = x := ⟨_, rfl⟩
  obtain ⟨⟨⟨c4, s4⟩, σ6⟩, e6⟩ : ∃ x, trmS conicT σ5 = x := ⟨_, rfl⟩
  obtain ⟨⟨⟨c5, s5⟩, σ7⟩, e7⟩ : ∃ x, trmS a4T σ6 = x := ⟨_, rfl⟩
  obtain ⟨⟨⟨c6, s6⟩, σ8⟩, e8⟩ : ∃ x, trmS a6T σ7 = x := ⟨_, rfl⟩
  have q1 : FineS σ1 := by have := hf.num; rwa [e1] at this
  have q2 : FineS σ2 := by have := q1.pos; rwa [e2] at this
  have q3 : FineS σ3 := by have := q2.rch (r := ⟨c1, s1⟩) (t := ⟨kd, tx, L, C⟩) (a := ⟨c2, s2⟩); rwa [e3] at this
  have q4 : FineS σ4 := by have := q3.thk; rwa [e4] at this
  have q5 : FineS σ5 := by have := q4.gls (G := names); rwa [e5] at this
  have q6 : FineS σ6 := by have := q5.trm (w := conicT); rwa [e6] at this
  have q7 : FineS σ7 := by have := q6.trm (w := a4T); rwa [e7] at this
  have es : faceS names σ = (⟨false, ⟨c1, s1⟩, ⟨c2, s2⟩, ⟨c3, s3⟩, ⟨c4, s4⟩, ⟨c5, s5⟩, ⟨c6, s6⟩, gl⟩, σ8) := by
    unfold faceS fS8 fS7 fS6 fS5 fS4 fS3 fS2 fS1
    simp only [e1, e2, e3, e4, e5, e6, e7, e8]
  have hb : decRight ⟨c1, s1⟩ = true := by have := num_right σ; rwa [e1] at this
  obtain ⟨⟨hb1, hb2⟩, -⟩ := decRight_bd hb
  have HE := Lib.hid es
  have H1 := Lib.hid e1
  have H2 := Lib.hid e2
  have H3 := Lib.hid e3
  have H4 := Lib.hid e4
  have H5 := Lib.hid e5
  have H6 := Lib.hid e6
  have H7 := Lib.hid e7
  have H8 := Lib.hid e8
  clear e1 e2 e3 e4 e5 e6 e7 e8 es hb
  obtain ⟨V, hV⟩ : ∃ V, reachB ⟨c1, s1⟩ ⟨c2, s2⟩ = V := ⟨_, rfl⟩
  have HR := Lib.hid hV
  clear hV
  go_enter Tryz.func81, Tryz.ntmps81
  go_wp2_with (first | (go_at_call 98; (with_reducible refine (reach_c _ _ (by (try dsimp only); omega) (by (try dsimp only); omega) _).mono ?_); rintro e w' ⟨rfl, r, rfl⟩) | (go_at_call 98; (with_reducible refine (reach_c _ ⟨_, _⟩ (by (try dsimp only); omega) (by (try dsimp only); omega) _).mono ?_); rintro e w' ⟨rfl, r, rfl⟩) | (go_at_call 98; (with_reducible refine (reach_c ⟨_, _⟩ _ (by (try dsimp only); omega) (by (try dsimp only); omega) _).mono ?_); rintro e w' ⟨rfl, r, rfl⟩) | (go_at_call 98; (with_reducible refine (reach_c ⟨_, _⟩ ⟨_, _⟩ (by (try dsimp only); omega) (by (try dsimp only); omega) _).mono ?_); rintro e w' ⟨rfl, r, rfl⟩))
  go_at_call 79
  refine Calls.mono (number_m X v σ (by intro v'; (repeat (first | exact Moved.self | apply Moved.alloc | apply Moved.more | apply Moved.drew))) hf hv) ?_
  rintro en w' ⟨rfl, v1, ⟨r1, rfl⟩, h1⟩
  rw [H1.out] at h1 ⊢
  dsimp only at h1 ⊢
  go_wp2_with fail
  go_at_call 54
  refine Calls.mono (above_m X v1 σ1 (by intro v'; (repeat (first | exact Moved.self | apply Moved.alloc | apply Moved.more | apply Moved.drew))) q1 h1) ?_
  rintro en w' ⟨rfl, v2, ⟨r2, rfl⟩, h2⟩
  rw [H2.out] at h2 ⊢
  dsimp only at h2 ⊢
  cases V with
  | true =>
    have e9 : σ3 = σ2 := by
      have := H3.out
      unfold rchS at this
      rw [if_pos HR.out] at this
      exact this.symm
    subst e9
    go_wp2_with (first | (go_at_call 98; (refine Calls.mono (reach_c ⟨c1, s1⟩ ⟨c2, s2⟩ hb1 hb2 _) ?_); rintro e w' ⟨rfl, r9, rfl⟩; rw [HR.out]))
    go_at_call 97
    refine Calls.mono (thick_m X v2 σ3 (by intro v'; (repeat (first | exact Moved.self | apply Moved.alloc | apply Moved.more | apply Moved.drew))) q3 h2) ?_
    rintro en w' ⟨rfl, v4, ⟨r4, rfl⟩, h4⟩
    rw [H4.out] at h4 ⊢
    dsimp only at h4 ⊢
    go_wp2_with fail
    go_at_call 99
    refine Calls.mono (glass_m g G X v4 σ4 (by intro v'; rw [HN.out]; (repeat (first | exact Moved.self | apply Moved.alloc | apply Moved.more | apply Moved.drew))) hg hG q4 h4) ?_
    rintro en w' ⟨rfl, v5, ⟨r5, rfl⟩, h5⟩
    rw [HN.out, H5.out] at h5 ⊢
    dsimp only at h5 ⊢
    go_wp2_with fail
    go_at_call 100
    refine Calls.mono (term_m conicT X v5 σ5 (by intro v'; (repeat (first | exact Moved.self | apply Moved.alloc | apply Moved.more | apply Moved.drew))) q5 h5) ?_
    rintro en w' ⟨rfl, v6, ⟨r6, rfl⟩, h6⟩
    rw [H6.out] at h6 ⊢
    dsimp only at h6 ⊢
    go_wp2_with fail
    go_at_call 100
    refine Calls.mono (term_m a4T X v6 σ6 (by intro v'; (repeat (first | exact Moved.self | apply Moved.alloc | apply Moved.more | apply Moved.drew))) q6 h6) ?_
    rintro en w' ⟨rfl, v7, ⟨r7, rfl⟩, h7⟩
    rw [H7.out] at h7 ⊢
    dsimp only at h7 ⊢
    go_wp2_with fail
    go_at_call 100
    refine Calls.mono (term_m a6T X v7 σ7 (by intro v'; (repeat (first | exact Moved.self | apply Moved.alloc | apply Moved.more | apply Moved.drew))) q7 h7) ?_
    rintro en w' ⟨rfl, v8, ⟨r8, rfl⟩, h8⟩
    rw [H8.out] at h8 ⊢
    dsimp only at h8 ⊢
    go_wp2_with fail
    go_returns
    rw [HE.out]
    refine ⟨rfl, v8, ?_, h8⟩
    rw [HW.out, HE.out]
    exact (by repeat (first | exact More.refl _ | refine plus_more ?_ | refine More.alloc ?_ _ | refine More.more ?_ _ | refine More.drew ?_ | refine More.drewN ?_ _))
  | false =>
    have e9 : σ3 = failS 1 L C σ2 := by
      have := H3.out
      unfold rchS at this
      rw [if_neg (by rw [HR.out]; simp)] at this
      exact this.symm
    have hts : GRow tk3 3 X v2 σ3.ts := by rw [e9, ts_fail]; exact h2
    have H9 := Lib.hid e9
    clear e9
    go_wp2_with (first | (go_at_call 98; (refine Calls.mono (reach_c ⟨c1, s1⟩ ⟨c2, s2⟩ hb1 hb2 _) ?_); rintro e w' ⟨rfl, r9, rfl⟩; rw [HR.out]) | (go_at_call 58; (refine Calls.mono (fail_m 1 L C X v2 σ2 (by (repeat (first | exact Moved.self | apply Moved.alloc | apply Moved.more | apply Moved.drew)))) ?_); rintro e w' ⟨rfl, rfl⟩; rw [← H9.out]))
    clear h2
    have h2 := hts
    clear hts
    go_at_call 97
    refine Calls.mono (thick_m X v2 σ3 (by intro v'; (repeat (first | exact Moved.self | apply Moved.alloc | apply Moved.more | apply Moved.drew))) q3 h2) ?_
    rintro en w' ⟨rfl, v4, ⟨r4, rfl⟩, h4⟩
    rw [H4.out] at h4 ⊢
    dsimp only at h4 ⊢
    go_wp2_with fail
    go_at_call 99
    refine Calls.mono (glass_m g G X v4 σ4 (by intro v'; rw [HN.out]; (repeat (first | exact Moved.self | apply Moved.alloc | apply Moved.more | apply Moved.drew))) hg hG q4 h4) ?_
    rintro en w' ⟨rfl, v5, ⟨r5, rfl⟩, h5⟩
    rw [HN.out, H5.out] at h5 ⊢
    dsimp only at h5 ⊢
    go_wp2_with fail
    go_at_call 100
    refine Calls.mono (term_m conicT X v5 σ5 (by intro v'; (repeat (first | exact Moved.self | apply Moved.alloc | apply Moved.more | apply Moved.drew))) q5 h5) ?_
    rintro en w' ⟨rfl, v6, ⟨r6, rfl⟩, h6⟩
    rw [H6.out] at h6 ⊢
    dsimp only at h6 ⊢
    go_wp2_with fail
    go_at_call 100
    refine Calls.mono (term_m a4T X v6 σ6 (by intro v'; (repeat (first | exact Moved.self | apply Moved.alloc | apply Moved.more | apply Moved.drew))) q6 h6) ?_
    rintro en w' ⟨rfl, v7, ⟨r7, rfl⟩, h7⟩
    rw [H7.out] at h7 ⊢
    dsimp only at h7 ⊢
    go_wp2_with fail
    go_at_call 100
    refine Calls.mono (term_m a6T X v7 σ7 (by intro v'; (repeat (first | exact Moved.self | apply Moved.alloc | apply Moved.more | apply Moved.drew))) q7 h7) ?_
    rintro en w' ⟨rfl, v8, ⟨r8, rfl⟩, h8⟩
    rw [H8.out] at h8 ⊢
    dsimp only at h8 ⊢
    go_wp2_with fail
    go_returns
    rw [HE.out]
    refine ⟨rfl, v8, ?_, h8⟩
    rw [HW.out, HE.out]
    exact (by repeat (first | exact More.refl _ | refine plus_more ?_ | refine More.alloc ?_ _ | refine More.more ?_ _ | refine More.drew ?_ | refine More.drewN ?_ _))

set_option maxHeartbeats 16000000 in
set_option maxRecDepth 100000 in
theorem line_m (n : Nat) (g : Value) (G : List Gl) (X : World) (v : Value) (σ : RdS) {W : World} {W' : Value → World} {R : Rest} (hm : RdMoved X v σ (lineS (G.map Gl.name) n σ).2 W W' R) (hg : Gls X g G) (hG : G.length ≤ 1000000) (hf : FineS σ) (hv : GRow tk3 3 X v σ.ts) :
    Calls Tryz.prog 55 #[.pointer (some ⟨X.heap.size, 0, none⟩), .int .i64 n, g] W fun en w' => en = .returned (fcV (lineS (G.map Gl.name) n σ).1) ∧ ∃ v', More (W' v') w' ∧ GRow tk3 3 X v' (lineS (G.map Gl.name) n σ).2.ts := by
  obtain ⟨rfl, hW'⟩ := hm.form
  clear hm
  have HW := Lib.hid hW'
  clear hW'
  obtain ⟨⟨⟨kd, tx, L, C⟩, σ1⟩, e1⟩ : ∃ x, wordS [faceT, stopT] σ = x := ⟨_, rfl⟩
  obtain ⟨σ2, e2⟩ : ∃ x, bigS n ⟨kd, tx, L, C⟩ σ1 = x := ⟨_, rfl⟩
  obtain ⟨⟨F, σ3⟩, e3⟩ : ∃ x, bodyS (G.map Gl.name) ⟨kd, tx, L, C⟩ σ2 = x := ⟨_, rfl⟩
  obtain ⟨⟨tz, σ4⟩, e4⟩ : ∃ x, takeS 3 σ3 = x := ⟨_, rfl⟩
  have q1 : FineS σ1 := by have := hf.word (ws := [faceT, stopT]); rwa [e1] at this
  have q2 : FineS σ2 := by have := q1.big (n := n) (t := ⟨kd, tx, L, C⟩); rwa [e2] at this
  have q3 : FineS σ3 := by have := q2.body (G := G.map Gl.name) (t := ⟨kd, tx, L, C⟩); rwa [e3] at this
  have es : lineS (G.map Gl.name) n σ = (F, σ4) := by
    unfold lineS lS2 lS1
    simp only [e1, e2, e3, e4]
  have HE := Lib.hid es
  have H1 := Lib.hid e1
  have H2 := Lib.hid e2
  have H3 := Lib.hid e3
  have H4 := Lib.hid e4
  clear e1 e2 e3 e4 es
  obtain ⟨fs, ⟨fr1, fr2⟩, ⟨fa1, fa2⟩, ⟨ft1, ft2⟩, ⟨fk1, fk2⟩, ⟨fp1, fp2⟩, ⟨fq1, fq2⟩, fg⟩ := F
  obtain ⟨kz, xz, Lz, Cz⟩ := tz
  go_enter Tryz.func55, Tryz.ntmps55
  go_wp2_with fail
  go_at_call 52
  refine Calls.mono (word_m [faceT, stopT] _ X v σ (by intro v'; (repeat (first | exact Moved.self | apply Moved.alloc | apply Moved.more | apply Moved.drew))) (by intro v'; (repeat (first | exact Moved.self | apply Moved.alloc | apply Moved.more | apply Moved.drew))) (fun v' => strs_new [faceT, stopT] (by simp [Nat.add_assoc]) _ rfl _ rfl) (by decide) hf hv) ?_
  rintro en w' ⟨rfl, v1, ⟨r1, rfl⟩, h1⟩
  rw [H1.out] at h1 ⊢
  dsimp only at h1 ⊢
  by_cases hn : n = 12
  · have hq : ((n : Int) == 12) = true := by rw [hn]; rfl
    have e9 : σ2 = failS 3 L C σ1 := by
      have := H2.out
      unfold bigS at this
      rw [if_pos hn] at this
      exact this.symm
    have h2 : GRow tk3 3 X v1 σ2.ts := by rw [e9, ts_fail]; exact h1
    have H9 := Lib.hid e9
    clear e9
    have HN := Lib.hid hn
    clear hn h1
    go_wp2_with fail
    go_at_call 58
    refine Calls.mono (fail_m 3 L C X v1 σ1 (by (repeat (first | exact Moved.self | apply Moved.alloc | apply Moved.more | apply Moved.drew)))) ?_
    rintro e w' ⟨rfl, rfl⟩
    rw [← H9.out]
    by_cases hst : tx = stopT
    · have hq2 : (tx == [115, 116, 111, 112]) = true := by rw [hst]; rfl
      have e5 : stopS σ2 = (⟨fs, ⟨fr1, fr2⟩, ⟨fa1, fa2⟩, ⟨ft1, ft2⟩, ⟨fk1, fk2⟩, ⟨fp1, fp2⟩, ⟨fq1, fq2⟩, fg⟩, σ3) := by
        have := H3.out
        unfold bodyS at this
        rw [if_pos (show tx = stopT from hst)] at this
        exact this
      have H5 := Lib.hid e5
      clear e5 hst
      go_wp2_with fail
      go_at_call 80
      refine Calls.mono (stop_m X v1 σ2 (by intro v'; (repeat (first | exact Moved.self | apply Moved.alloc | apply Moved.more | apply Moved.drew))) q2 h2) ?_
      rintro en w' ⟨rfl, v3, ⟨r3, rfl⟩, h3⟩
      rw [H5.out] at h3 ⊢
      dsimp only at h3 ⊢
      go_wp2_with fail
      go_at_call 53
      refine Calls.mono (take_m 3 X v3 σ3 (by intro v'; (repeat (first | exact Moved.self | apply Moved.alloc | apply Moved.more | apply Moved.drew))) q3 h3) ?_
      rintro en w' ⟨rfl, v4, ⟨r4, rfl⟩, h4⟩
      rw [H4.out] at h4 ⊢
      dsimp only at h4 ⊢
      go_wp2_with fail
      go_returns
      rw [HE.out]
      refine ⟨rfl, v4, ?_, h4⟩
      rw [HW.out, HE.out]
      exact (by repeat (first | exact More.refl _ | refine plus_more ?_ | refine More.alloc ?_ _ | refine More.more ?_ _ | refine More.drew ?_ | refine More.drewN ?_ _))
    · have hq2 : (tx == [115, 116, 111, 112]) = false := by simpa [stopT] using hst
      have e5 : faceS (G.map Gl.name) σ2 = (⟨fs, ⟨fr1, fr2⟩, ⟨fa1, fa2⟩, ⟨ft1, ft2⟩, ⟨fk1, fk2⟩, ⟨fp1, fp2⟩, ⟨fq1, fq2⟩, fg⟩, σ3) := by
        have := H3.out
        unfold bodyS at this
        rw [if_neg (show ¬ tx = stopT from hst)] at this
        exact this
      have H5 := Lib.hid e5
      clear e5 hst
      go_wp2_with fail
      go_at_call 81
      refine Calls.mono (face_m g G X v1 σ2 (by intro v'; (repeat (first | exact Moved.self | apply Moved.alloc | apply Moved.more | apply Moved.drew))) hg hG q2 h2) ?_
      rintro en w' ⟨rfl, v3, ⟨r3, rfl⟩, h3⟩
      rw [H5.out] at h3 ⊢
      dsimp only at h3 ⊢
      go_wp2_with fail
      go_at_call 53
      refine Calls.mono (take_m 3 X v3 σ3 (by intro v'; (repeat (first | exact Moved.self | apply Moved.alloc | apply Moved.more | apply Moved.drew))) q3 h3) ?_
      rintro en w' ⟨rfl, v4, ⟨r4, rfl⟩, h4⟩
      rw [H4.out] at h4 ⊢
      dsimp only at h4 ⊢
      go_wp2_with fail
      go_returns
      rw [HE.out]
      refine ⟨rfl, v4, ?_, h4⟩
      rw [HW.out, HE.out]
      exact (by repeat (first | exact More.refl _ | refine plus_more ?_ | refine More.alloc ?_ _ | refine More.more ?_ _ | refine More.drew ?_ | refine More.drewN ?_ _))
  · have hq : ((n : Int) == 12) = false := by simp; omega
    have e9 : σ2 = σ1 := by
      have := H2.out
      unfold bigS at this
      rw [if_neg hn] at this
      exact this.symm
    subst e9
    have h2 := h1
    have HN := Lib.hid hn
    clear hn h1
    by_cases hst : tx = stopT
    · have hq2 : (tx == [115, 116, 111, 112]) = true := by rw [hst]; rfl
      have e5 : stopS σ2 = (⟨fs, ⟨fr1, fr2⟩, ⟨fa1, fa2⟩, ⟨ft1, ft2⟩, ⟨fk1, fk2⟩, ⟨fp1, fp2⟩, ⟨fq1, fq2⟩, fg⟩, σ3) := by
        have := H3.out
        unfold bodyS at this
        rw [if_pos (show tx = stopT from hst)] at this
        exact this
      have H5 := Lib.hid e5
      clear e5 hst
      go_wp2_with fail
      go_at_call 80
      refine Calls.mono (stop_m X v1 σ2 (by intro v'; (repeat (first | exact Moved.self | apply Moved.alloc | apply Moved.more | apply Moved.drew))) q2 h2) ?_
      rintro en w' ⟨rfl, v3, ⟨r3, rfl⟩, h3⟩
      rw [H5.out] at h3 ⊢
      dsimp only at h3 ⊢
      go_wp2_with fail
      go_at_call 53
      refine Calls.mono (take_m 3 X v3 σ3 (by intro v'; (repeat (first | exact Moved.self | apply Moved.alloc | apply Moved.more | apply Moved.drew))) q3 h3) ?_
      rintro en w' ⟨rfl, v4, ⟨r4, rfl⟩, h4⟩
      rw [H4.out] at h4 ⊢
      dsimp only at h4 ⊢
      go_wp2_with fail
      go_returns
      rw [HE.out]
      refine ⟨rfl, v4, ?_, h4⟩
      rw [HW.out, HE.out]
      exact (by repeat (first | exact More.refl _ | refine plus_more ?_ | refine More.alloc ?_ _ | refine More.more ?_ _ | refine More.drew ?_ | refine More.drewN ?_ _))
    · have hq2 : (tx == [115, 116, 111, 112]) = false := by simpa [stopT] using hst
      have e5 : faceS (G.map Gl.name) σ2 = (⟨fs, ⟨fr1, fr2⟩, ⟨fa1, fa2⟩, ⟨ft1, ft2⟩, ⟨fk1, fk2⟩, ⟨fp1, fp2⟩, ⟨fq1, fq2⟩, fg⟩, σ3) := by
        have := H3.out
        unfold bodyS at this
        rw [if_neg (show ¬ tx = stopT from hst)] at this
        exact this
      have H5 := Lib.hid e5
      clear e5 hst
      go_wp2_with fail
      go_at_call 81
      refine Calls.mono (face_m g G X v1 σ2 (by intro v'; (repeat (first | exact Moved.self | apply Moved.alloc | apply Moved.more | apply Moved.drew))) hg hG q2 h2) ?_
      rintro en w' ⟨rfl, v3, ⟨r3, rfl⟩, h3⟩
      rw [H5.out] at h3 ⊢
      dsimp only at h3 ⊢
      go_wp2_with fail
      go_at_call 53
      refine Calls.mono (take_m 3 X v3 σ3 (by intro v'; (repeat (first | exact Moved.self | apply Moved.alloc | apply Moved.more | apply Moved.drew))) q3 h3) ?_
      rintro en w' ⟨rfl, v4, ⟨r4, rfl⟩, h4⟩
      rw [H4.out] at h4 ⊢
      dsimp only at h4 ⊢
      go_wp2_with fail
      go_returns
      rw [HE.out]
      refine ⟨rfl, v4, ?_, h4⟩
      rw [HW.out, HE.out]
      exact (by repeat (first | exact More.refl _ | refine plus_more ?_ | refine More.alloc ?_ _ | refine More.more ?_ _ | refine More.drew ?_ | refine More.drewN ?_ _))

end Go.Proofs.YtekhhekkepijoaaGreatDoor

