/-
  The reference's small functions: a decimal that is 0, above 0, without its sign, printable; a word; a glass of that name; a face; a lens.
  The reference's lenses: a face that may be, a lens that may be.
  Is no number of a system None? (the reference's)
-/
import Derived.Test.YtggohceeeggnmaaGreatSurf
import Derived.Test.YtggohceeeggnmaaGreatGlassRf
import Derived.Test.YtggohceeeggnmaaGreatGe
import Derived.Test.YtggohceeeggnmaaGreatGlass
import Derived.Test.YtggohceeeggnmaaGreatGj
import Derived.Test.YtggohceeeggnmaaGreatGlassRdW
import Derived.Test.YtggohceeeggnmaaGreatGl
import Derived.Test.YtggohceeeggnmaaGreatGy5

namespace Go.Proofs.YtggohceeeggnmaaGreat
set_option linter.unusedVariables false
open Go.ChangeShapes Go.WideShapes Go.ChangeAt Go.RowKit

set_option maxHeartbeats 4000000 in
theorem zero8_c (d : Dec) (W : World) :
    Calls Tryz.prog 68 #[decV d] W fun e w' => e = .returned (.bool (isZ d)) ∧ More W w' := by
  obtain ⟨c, s⟩ := d
  have E := eql_dec0 c s
  go_enter Tryz.func68, Tryz.ntmps68
  go_wp2_with fail
  go_returns
  exact ⟨rfl, (by repeat (first | exact More.refl _ | refine More.alloc ?_ _ | refine More.more ?_ _ | refine More.drew ?_ | refine More.drewN ?_ _))⟩

set_option maxHeartbeats 4000000 in
theorem above8_c (d : Dec) (W : World) :
    Calls Tryz.prog 104 #[decV d] W fun e w' => e = .returned (.bool (decide (0 < d.c))) ∧ More W w' := by
  obtain ⟨c, s⟩ := d
  by_cases h : 0 < c
  · have hd : decide (0 < c) = true := by simpa using h
    rw [hd]
    go_enter Tryz.func104, Tryz.ntmps104
    go_wp2_with fail
    go_returns
    exact ⟨rfl, (by repeat (first | exact More.refl _ | refine More.alloc ?_ _ | refine More.more ?_ _ | refine More.drew ?_ | refine More.drewN ?_ _))⟩
  · have hd : decide (0 < c) = false := by simpa using h
    rw [hd]
    go_enter Tryz.func104, Tryz.ntmps104
    go_wp2_with fail
    go_returns
    exact ⟨rfl, (by repeat (first | exact More.refl _ | refine More.alloc ?_ _ | refine More.more ?_ _ | refine More.drew ?_ | refine More.drewN ?_ _))⟩

set_option maxHeartbeats 4000000 in
theorem size8_c (d : Dec) (h0 : -100000000000 ≤ d.c) (h1 : d.c ≤ 100000000000) (W : World) :
    Calls Tryz.prog 127 #[decV d] W fun e w' => e = .returned (decV ⟨max d.c (-d.c), d.s⟩) ∧ More W w' := by
  obtain ⟨c, s⟩ := d
  dsimp only at h0 h1
  go_enter Tryz.func127, Tryz.ntmps127
  go_wp2_with fail
  go_returns
  exact ⟨rfl, (by repeat (first | exact More.refl _ | refine More.alloc ?_ _ | refine More.more ?_ _ | refine More.drew ?_ | refine More.drewN ?_ _))⟩

theorem ok_print {d : Dec} (h : OkDec d) : ∃ c w, printP d = c :: w := by
  rcases dec_it h.1 h.2 with ⟨e, -⟩ | ⟨-, c, w, e, -⟩
  · cases e
  · exact ⟨c, w, e⟩

set_option maxHeartbeats 4000000 in
theorem printable8_c (d : Dec) (h : OkDec d) (W : World) :
    Calls Tryz.prog 103 #[decV d] W fun e w' => e = .returned (.bool true) ∧ More W w' := by
  obtain ⟨c, w, e⟩ := ok_print h
  obtain ⟨l, hl⟩ : ∃ l, printP d = l := ⟨_, rfl⟩
  have hq : l.isEmpty = false := by rw [← hl, e]; rfl
  have HL := Lib.hid hl
  rw [hl] at e
  clear hl e h
  obtain ⟨dc, ds⟩ := d
  go_enter Tryz.func103, Tryz.ntmps103
  go_wp2_with fail
  go_at_call 125
  refine Calls.mono (print8_c ⟨dc, ds⟩ _) ?_
  rintro e w' ⟨rfl, r, rfl⟩
  rw [HL.out]
  go_wp2_with fail
  go_returns
  exact ⟨rfl, (by repeat (first | exact More.refl _ | refine More.alloc ?_ _ | refine More.more ?_ _ | refine More.drew ?_ | refine More.drewN ?_ _))⟩

set_option maxHeartbeats 4000000 in
theorem word8_c (t : List UInt8) (h : OkName t) (W : World) : Calls Tryz.prog 102 #[.string (bsOf t)] W fun e w' => e = .returned (.bool true) ∧ More W w' := by
  obtain ⟨c, w, rfl, hc, hw, hl⟩ := h
  have h0 : isLz (byteAt (c :: w) 0) = true := by rw [isLz_at]; exact hc
  have hall : ∀ k, k < (c :: w).length → isWz (byteAt (c :: w) k) = true := by
    intro k hk
    rw [isWz_at]
    match k, hk with
    | 0, _ =>
      show isW c = true
      unfold isW
      rw [hc]
      rfl
    | k + 1, hk =>
      have hk' : k < w.length := by simpa using hk
      show isW (w.getD k 0) = true
      rw [List.getD_eq_getElem?_getD, List.getElem?_eq_getElem hk']
      exact List.all_eq_true.1 hw _ (List.getElem_mem hk')
  have hn : 1 ≤ (c :: w).length ∧ (c :: w).length ≤ 20 := by simp; omega
  obtain ⟨l, hL⟩ : ∃ l, c :: w = l := ⟨_, rfl⟩
  rw [hL] at h0 hall hn ⊢
  obtain ⟨n1, n2⟩ := hn
  clear hL hc hw hl
  have hq : (((l.length : Nat) : Int) == 0) = false := beq_false_of_ne (by omega)
  have HALL := Lib.hid hall
  clear hall
  go_enter Tryz.func102, Tryz.ntmps102
  go_wp2_with (first | (go_at_call 123; (with_reducible refine (rletter_c _ _).mono ?_); rintro e w' ⟨rfl, rfl⟩) | (go_at_call 124; (with_reducible refine (rinWord_c _ _).mono ?_); rintro e w' ⟨rfl, rfl⟩))
  go_loopw [3] (fun i wr => ∃ k : Nat, k ≤ l.length ∧ i = .int .i64 k ∧ More W wr) (fun i _ => l.length - (intOf i).toNat)
  case atStart => exact ⟨0, by omega, rfl, (by repeat (first | exact More.refl _ | refine More.alloc ?_ _ | refine More.more ?_ _ | refine More.drew ?_ | refine More.drewN ?_ _))⟩
  case round =>
    obtain ⟨k, hk, rfl, s, rfl⟩ := hrel
    by_cases hkl : k < l.length
    · have hw := HALL.out k hkl
      go_wp2_with (first | (go_at_call 123; (with_reducible refine (rletter_c _ _).mono ?_); rintro e w' ⟨rfl, rfl⟩) | (go_at_call 124; (with_reducible refine (rinWord_c _ _).mono ?_); rintro e w' ⟨rfl, rfl⟩))
      go_roundw
      case rel => exact ⟨k + 1, by omega, rfl, (by repeat (first | exact More.refl _ | refine More.alloc ?_ _ | refine More.more ?_ _ | refine More.drew ?_ | refine More.drewN ?_ _))⟩
      case measure => simp [intOf] <;> omega
    · obtain rfl : k = l.length := by omega
      go_wp2_with (first | (go_at_call 123; (with_reducible refine (rletter_c _ _).mono ?_); rintro e w' ⟨rfl, rfl⟩) | (go_at_call 124; (with_reducible refine (rinWord_c _ _).mono ?_); rintro e w' ⟨rfl, rfl⟩))
      go_returns
      exact ⟨rfl, (by repeat (first | exact More.refl _ | refine More.alloc ?_ _ | refine More.more ?_ _ | refine More.drew ?_ | refine More.drewN ?_ _))⟩

set_option maxHeartbeats 8000000 in
set_option maxRecDepth 100000 in
theorem rfind8_c (v : Value) (l : List Gl) (t : List UInt8) (W : World) (hv : Gls W v l) (hl : l.length ≤ 1000000) (ht : t.length ≤ 1000000) :
    Calls Tryz.prog 70 #[v, .string (bsOf t)] W fun e w' => e = .returned (.tuple #[glV (findG t l), .bool (hasName t l)]) ∧ More W w' := by
  obtain ⟨ao, c, rfl, -⟩ := grow_form gls_pos hv
  go_enter Tryz.func70, Tryz.ntmps70
  go_wp2_with fail
  go_loopw [6] (fun x wr => ∃ k : Nat, k ≤ l.length ∧ x = .int .i64 k ∧ (∀ (j : Nat) (g : Gl), j < k → l[j]? = some g → g.name ≠ t) ∧ Gls wr (.slice ao l.length c) l ∧ More (W.alloc (.cells #[.string ⟨#[]⟩, .int .i64 0, .int .i64 0, .int .i64 0, .int .i64 0, .int .i64 0, .int .i64 0, .int .i64 0, .int .i64 0, .int .i64 0, .int .i64 0, .int .i64 0, .int .i64 0] 96)) wr) (fun x _ => l.length - (intOf x).toNat)
  case atStart => exact ⟨0, by omega, rfl, fun j g h => by omega, hv.up (by repeat (first | exact More.refl _ | refine More.alloc ?_ _ | refine More.more ?_ _ | refine More.drew ?_ | refine More.drewN ?_ _)), More.refl _⟩
  case round =>
    obtain ⟨k, hk, rfl, hno, hG, s, rfl⟩ := hrel
    have HN := Lib.hid hno
    have HG := Lib.hid hG
    clear hno hv
    by_cases hkl : k < l.length
    · obtain ⟨g, hg⟩ : ∃ g, l[k]? = some g := ⟨l[k], List.getElem?_eq_getElem hkl⟩
      obtain ⟨b, o, rfl, hb, hL, hL0⟩ := gls_at hG hg
      have f0 := gcell hG hg 0 _ rfl
      rw [Nat.add_zero] at f0
      clear hG
      have HK := Lib.hid hg
      clear hg
      rw [size_more] at hb
      by_cases he : g.name = t
      · have hq : (g.name == t) = true := by simpa using he
        have HE := Lib.hid he
        clear he
        go_wp2_with fail
        go_returns
        refine ⟨?_, (by repeat (first | exact More.refl _ | refine More.alloc ?_ _ | refine More.more ?_ _ | refine More.drew ?_ | refine More.drewN ?_ _))⟩
        obtain ⟨e1, e2⟩ := find_yes HN.out HK.out HE.out
        rw [e1, e2]
      · have hq : (g.name == t) = false := by simpa using he
        have HE := Lib.hid he
        clear he
        go_wp2_with fail
        go_roundw
        case rel => exact ⟨k + 1, by omega, rfl, up_to (p := fun g => g.name ≠ t) HN.out HK.out HE.out, HG.out.up (by repeat (first | exact More.refl _ | refine More.alloc ?_ _ | refine More.more ?_ _ | refine More.drew ?_ | refine More.drewN ?_ _)), (by repeat (first | exact More.refl _ | refine More.alloc ?_ _ | refine More.more ?_ _ | refine More.drew ?_ | refine More.drewN ?_ _))⟩
        case measure => simp [intOf] <;> omega
    · obtain rfl : k = l.length := by omega
      go_wp2_with fail
      go_returns
      refine ⟨?_, (by repeat (first | exact More.refl _ | refine More.alloc ?_ _ | refine More.more ?_ _ | refine More.drew ?_ | refine More.drewN ?_ _))⟩
      obtain ⟨e1, e2⟩ := find_no (t := t) (l := l) fun j g hj => HN.out j g (List.getElem?_eq_some_iff.1 hj).1 hj
      rw [e1, e2]
      rfl

end Go.Proofs.YtggohceeeggnmaaGreat

namespace Go.Proofs.YtggohceeeggnmaaGreat
set_option linter.unusedVariables false
open Go.ChangeShapes Go.WideShapes Go.ChangeAt Go.RowKit

theorem size_less (a b : Dec) (ha : decRight a = true) (hb : decRight b = true) : decLess ⟨max a.c (-a.c), a.s⟩ b = sizeLess a b := by
  obtain ⟨⟨h1, h2⟩, h3, h4, h5⟩ := decRight_bd ha
  obtain ⟨⟨k1, k2⟩, k3, k4, -⟩ := decRight_bd hb
  have hr : decRight ⟨max a.c (-a.c), a.s⟩ = true := by
    obtain ⟨c, s⟩ := a
    dsimp only at *
    unfold decRight at ha ⊢
    dsimp only at ha ⊢
    have em : (max c (-c)).tmod 10 = c.tmod 10 ∨ (max c (-c)).tmod 10 = -(c.tmod 10) := by
      rcases (show max c (-c) = c ∨ max c (-c) = -c by omega) with e | e <;> rw [e]
      · exact .inl rfl
      · exact .inr (Int.neg_tmod _ _)
    simp only [Bool.and_eq_true, Bool.or_eq_true, decide_eq_true_eq, ne_eq, Bool.not_eq_true', beq_eq_false_iff_ne] at ha ⊢
    omega
  unfold decLess sizeLess
  rw [hr, hb, Bool.true_and, Bool.true_and]
  have e : max a.c (-a.c) = (a.c.natAbs : Int) := by omega
  rw [e]
  rfl
theorem named_is (t : List UInt8) (l : List Gl) : hasName t l = decide (t ∈ l.map Gl.name) := by
  unfold hasName
  rw [Bool.eq_iff_iff, List.any_eq_true, decide_eq_true_iff, List.mem_map]
  simp only [beq_iff_eq]

set_option maxHeartbeats 16000000 in
set_option maxRecDepth 100000 in
theorem rface8_c (f : Fc) (g : Value) (G : List Gl) (W : World) (hok : OkFc f) (hg : Gls W g G) (hG : G.length ≤ 1000000) :
    Calls Tryz.prog 105 #[fcV f, g] W fun e w' => e = .returned (.bool (knownF (G.map Gl.name) f)) ∧ More W w' := by
  obtain ⟨ga, gc, rfl, -⟩ := grow_form gls_pos hg
  obtain ⟨ha, hap, ht, htp, hr, hgl, hk, h4, h6, hb⟩ := hok
  obtain ⟨fs, fr, fa, ft, fk, fp, fq, fg⟩ := f
  dsimp only at ha hap ht htp hr hgl hk h4 h6 hb
  cases fs with
  | true =>
    obtain ⟨rfl, rfl, rfl, rfl, rfl⟩ := hb rfl
    clear hb hr hgl hk h4 h6 hg
    have q1 : decide (0 < fa.c) = true := by simpa using hap
    have z0 : isZ ⟨0, 0⟩ = true := rfl
    obtain ⟨fa1, fa2⟩ := fa
    obtain ⟨ft1, ft2⟩ := ft
    dsimp only at q1 htp hap
    show Calls _ _ _ _ fun e w' => e = .returned (.bool true) ∧ _
    go_enter Tryz.func105, Tryz.ntmps105
    go_wp2_with (first | (go_at_call 68; (with_reducible refine (zero8_c _ _).mono ?_); rintro e w' ⟨rfl, r, rfl⟩) | (go_at_call 68; (with_reducible refine (zero8_c ⟨_, _⟩ _).mono ?_); rintro e w' ⟨rfl, r, rfl⟩) | (go_at_call 103; (with_reducible refine (printable8_c _ (by assumption) _).mono ?_); rintro e w' ⟨rfl, r, rfl⟩) | (go_at_call 103; (with_reducible refine (printable8_c ⟨_, _⟩ (by assumption) _).mono ?_); rintro e w' ⟨rfl, r, rfl⟩) | (go_at_call 104; (with_reducible refine (above8_c _ _).mono ?_); rintro e w' ⟨rfl, r, rfl⟩) | (go_at_call 104; (with_reducible refine (above8_c ⟨_, _⟩ _).mono ?_); rintro e w' ⟨rfl, r, rfl⟩) | (go_at_call 126; (with_reducible refine (decLess8_c _ _ _).mono ?_); rintro e w' ⟨rfl, r, rfl⟩) | (go_at_call 126; (with_reducible refine (decLess8_c _ ⟨_, _⟩ _).mono ?_); rintro e w' ⟨rfl, r, rfl⟩) | (go_at_call 126; (with_reducible refine (decLess8_c ⟨_, _⟩ _ _).mono ?_); rintro e w' ⟨rfl, r, rfl⟩) | (go_at_call 126; (with_reducible refine (decLess8_c ⟨_, _⟩ ⟨_, _⟩ _).mono ?_); rintro e w' ⟨rfl, r, rfl⟩) | (go_at_call 127; (with_reducible refine (size8_c _ (by (try dsimp only); omega) (by (try dsimp only); omega) _).mono ?_); rintro e w' ⟨rfl, r, rfl⟩) | (go_at_call 127; (with_reducible refine (size8_c ⟨_, _⟩ (by (try dsimp only); omega) (by (try dsimp only); omega) _).mono ?_); rintro e w' ⟨rfl, r, rfl⟩))
    go_returns
    exact ⟨rfl, (by repeat (first | exact More.refl _ | refine More.alloc ?_ _ | refine More.more ?_ _ | refine More.drew ?_ | refine More.drewN ?_ _))⟩
  | false =>
    have hr1 := (hr rfl).1
    have hr2 := (hr rfl).2
    have hgl1 := hgl rfl
    have hk1 := hk rfl
    have h41 := h4 rfl
    have h61 := h6 rfl
    clear hb hr hgl hk h4 h6
    have q1 : decide (0 < fa.c) = true := by simpa using hap
    have hlen : fg.length ≤ 1000000 := by
      obtain ⟨c, w, e, -, -, hl⟩ := hgl1
      rw [e, List.length_cons]
      omega
    obtain ⟨⟨r1, r2⟩, -⟩ := decRight_bd hr1.1
    have hsl := size_less fr fa hr1.1 ha.1
    have hkn : knownF (G.map Gl.name) ⟨false, fr, fa, ft, fk, fp, fq, fg⟩ = (hasName fg G || (fg == [97, 105, 114])) := by
      show (false || (decide _ || decide _)) = _
      rw [named_is, Bool.false_or]
      congr 1
      rw [Bool.eq_iff_iff, decide_eq_true_iff, beq_iff_eq]
      rfl
    rw [hkn]
    obtain ⟨N, hN⟩ : ∃ N, hasName fg G = N := ⟨_, rfl⟩
    obtain ⟨A, hA⟩ : ∃ N, (fg == [97, 105, 114]) = N := ⟨_, rfl⟩
    obtain ⟨GF, hGF⟩ : ∃ N, findG fg G = N := ⟨_, rfl⟩
    have HF := Lib.hid (show ∀ W1, More W W1 → Calls Tryz.prog 70 #[.slice ga G.length gc, .string (bsOf fg)] W1 fun e w' => e = .returned (.tuple #[glV GF, .bool N]) ∧ More W1 w' from fun W1 hM => by
      have h := rfind8_c (.slice ga G.length gc) G fg W1 (hg.up hM) hG hlen
      rw [hN, hGF] at h
      exact h)
    have HW := Lib.hid (show ∀ W1, Calls Tryz.prog 102 #[.string (bsOf fg)] W1 fun e w' => e = .returned (.bool true) ∧ More W1 w' from fun W1 => word8_c fg hgl1 W1)
    rw [hN, hA]
    clear hN hGF hg hkn hgl1
    obtain ⟨fr1, fr2⟩ := fr
    obtain ⟨fa1, fa2⟩ := fa
    obtain ⟨ft1, ft2⟩ := ft
    obtain ⟨fk1, fk2⟩ := fk
    obtain ⟨fp1, fp2⟩ := fp
    obtain ⟨fq1, fq2⟩ := fq
    obtain ⟨g1, ⟨g2, g3⟩, ⟨g4, g5⟩, ⟨g6, g7⟩, ⟨g8, g9⟩, ⟨ga1, ga2⟩, ⟨gb1, gb2⟩⟩ := GF
    dsimp only at q1 htp hap hr2 r1 r2 hsl
    have hcase : ((fr1 == 0) = true) ∨ ((fr1 == 0) = false ∧ decLess ⟨max fr1 (-fr1), fr2⟩ ⟨fa1, fa2⟩ = false) := by
      by_cases h0 : fr1 = 0
      · exact .inl (by simpa using h0)
      · right
        refine ⟨by simpa using h0, ?_⟩
        rw [hsl]
        exact hr2.resolve_left h0
    clear hr2 hsl
    go_enter Tryz.func105, Tryz.ntmps105
    go_wp2_with (first | (go_at_call 70; (refine Calls.mono (HF.out _ (by repeat (first | exact More.refl _ | refine More.alloc ?_ _ | refine More.more ?_ _ | refine More.drew ?_ | refine More.drewN ?_ _))) ?_); rintro e w' ⟨rfl, r7, rfl⟩) | (first | (go_at_call 103; (with_reducible refine (printable8_c _ (by assumption) _).mono ?_); rintro e w' ⟨rfl, r, rfl⟩) | (go_at_call 103; (with_reducible refine (printable8_c ⟨_, _⟩ (by assumption) _).mono ?_); rintro e w' ⟨rfl, r, rfl⟩) | (go_at_call 104; (with_reducible refine (above8_c _ _).mono ?_); rintro e w' ⟨rfl, r, rfl⟩) | (go_at_call 104; (with_reducible refine (above8_c ⟨_, _⟩ _).mono ?_); rintro e w' ⟨rfl, r, rfl⟩)))
    cases N <;> cases A <;> rcases hcase with hz | ⟨hz, hd⟩
    all_goals
      (first | (with_reducible refine wp_more_quick_m (id := 6) ?_ ?_ ?_) | (refine wp_more_quick (id := 6) ?_ ?_ ?_))
      · kernel_rfl
      · kernel_rfl
      (try simp only [List.append_eq, List.cons_append, List.nil_append])
      (repeat (any_goals (first | go_big_quiet_step ((first | (go_at_call 102; (with_reducible apply quiet_call); exact HW.out _) | (go_at_call 103; (with_reducible apply quiet_call); (first | exact printable8_c _ hr1 _ | exact printable8_c _ hk1 _ | exact printable8_c _ h41 _ | exact printable8_c _ h61 _)) | (go_at_call 127; (with_reducible apply quiet_call); exact size8_c ⟨fr1, fr2⟩ r1 r2 _) | (go_at_call 126; (with_reducible apply quiet_call); exact decLess8_c ⟨_, _⟩ ⟨_, _⟩ _))))))
      (with_reducible refine wpQuiet_nil ?_)
      intro r
      go_wp2_with fail
      go_returns
      exact ⟨by simp_all, (by repeat (first | exact More.refl _ | refine More.alloc ?_ _ | refine More.more ?_ _ | refine More.drew ?_ | refine More.drewN ?_ _))⟩

set_option maxHeartbeats 16000000 in
set_option maxRecDepth 100000 in
theorem rlens8_c (x : Ln) (lv g : Value) (G : List Gl) (W : World) (hok : OkLn x) (hx : Fcs W lv x.faces) (hg : Gls W g G) (hG : G.length ≤ 1000000) :
    Calls Tryz.prog 65 #[lnV x lv, g] W fun e w' => e = .returned (.bool (x.faces.all (knownF (G.map Gl.name)))) ∧ More W w' := by
  obtain ⟨la, lc, rfl, -⟩ := grow_form fcs_pos hx
  obtain ⟨ga, gc, rfl, -⟩ := grow_form gls_pos hg
  obtain ⟨h1, h2, h3, h4, h5, h6⟩ := hok
  obtain ⟨nm, bk, fcs⟩ := x
  dsimp only at h1 h2 h3 h4 h5 h6 hx ⊢
  have q1 : decide (0 < bk.c) = true := by simpa using h3
  obtain ⟨bc, bs⟩ := bk
  dsimp only at q1 h3
  have HW := Lib.hid (show ∀ W1, Calls Tryz.prog 102 #[.string (bsOf nm)] W1 fun e w' => e = .returned (.bool true) ∧ More W1 w' from fun W1 => word8_c nm h1 W1)
  have HF := Lib.hid (show ∀ f ∈ fcs, ∀ W1, More W W1 → Calls Tryz.prog 105 #[fcV f, .slice ga G.length gc] W1 fun e w' => e = .returned (.bool (knownF (G.map Gl.name) f)) ∧ More W1 w' from fun f hf W1 hM => rface8_c f _ G W1 (h4 f hf) (hg.up hM) hG)
  have HX := Lib.hid hx
  have HS := Lib.hid h6
  clear h1 h4 h6 hx hg
  have hn : ¬ (12 : Int) < ((fcs.length : Nat) : Int) := by omega
  go_enter Tryz.func65, Tryz.ntmps65
  go_wp2_with (first | (go_at_call 102; (refine Calls.mono (HW.out _) ?_); rintro e w' ⟨rfl, r7, rfl⟩) | (first | (go_at_call 103; (with_reducible refine (printable8_c _ (by assumption) _).mono ?_); rintro e w' ⟨rfl, r, rfl⟩) | (go_at_call 103; (with_reducible refine (printable8_c ⟨_, _⟩ (by assumption) _).mono ?_); rintro e w' ⟨rfl, r, rfl⟩) | (go_at_call 104; (with_reducible refine (above8_c _ _).mono ?_); rintro e w' ⟨rfl, r, rfl⟩) | (go_at_call 104; (with_reducible refine (above8_c ⟨_, _⟩ _).mono ?_); rintro e w' ⟨rfl, r, rfl⟩)))
  go_loopw [5, 6] (fun t i wr => ∃ k : Nat, k ≤ fcs.length ∧ i = .int .i64 k ∧ t = .bool (!((fcs.take k).all Fc.stop)) ∧ (fcs.take k).all (knownF (G.map Gl.name)) = true ∧ More (W.alloc (.cells #[.string (bsOf nm), .int .i64 bc, .int .i64 bs, .slice la fcs.length lc] 66)) wr) (fun _ i _ => fcs.length - (intOf i).toNat)
  case atStart => exact ⟨0, by omega, rfl, rfl, rfl, (by repeat (first | exact More.refl _ | refine More.alloc ?_ _ | refine More.more ?_ _ | refine More.drew ?_ | refine More.drewN ?_ _))⟩
  case round =>
    obtain ⟨k, hk, rfl, rfl, ha, s, rfl⟩ := hrel
    have HA := Lib.hid ha
    clear ha
    by_cases hkl : k < fcs.length
    · obtain ⟨f, hf⟩ : ∃ f, fcs[k]? = some f := ⟨fcs[k], List.getElem?_eq_getElem hkl⟩
      obtain ⟨b, off, rfl, hb, hL, -⟩ := fcs_at (w := W) HX.out hf
      have f0 := gcell HX.out hf 0 _ rfl
      rw [Nat.add_zero] at f0
      have hL2 : ∀ r, (loadWhole 101 ⟨b, off + k * 14, none⟩).run Tryz.prog (more (W.alloc (.cells #[.string (bsOf nm), .int .i64 bc, .int .i64 bs, .slice (some ⟨b, off, none⟩) fcs.length lc] 66)) r) = .ok (fcV f) (more (W.alloc (.cells #[.string (bsOf nm), .int .i64 bc, .int .i64 bs, .slice (some ⟨b, off, none⟩) fcs.length lc] 66)) r) := by
        intro r
        have hM : More W (more (W.alloc (.cells #[.string (bsOf nm), .int .i64 bc, .int .i64 bs, .slice (some ⟨b, off, none⟩) fcs.length lc] 66)) r) := (by repeat (first | exact More.refl _ | refine More.alloc ?_ _ | refine More.more ?_ _ | refine More.drew ?_ | refine More.drewN ?_ _))
        obtain ⟨r', hr⟩ := hM
        rw [hr]
        exact hL _
      have hT : (fcs.take (k + 1)).all Fc.stop = ((fcs.take k).all Fc.stop && f.stop) := by rw [List.take_add_one, hf, List.all_append]; simp
      have hK : (fcs.take (k + 1)).all (knownF (G.map Gl.name)) = knownF (G.map Gl.name) f := by rw [List.take_add_one, hf, List.all_append, HA.out]; simp
      obtain ⟨V, hV⟩ : ∃ V, knownF (G.map Gl.name) f = V := ⟨_, rfl⟩
      have HFf := Lib.hid (HF.out f (List.mem_of_getElem? hf))
      rw [hV] at hK
      have HK := Lib.hid hK
      have HT := Lib.hid hT
      have HF0 := Lib.hid hf
      have HV := Lib.hid hV
      clear hf hK hT hL
      obtain ⟨T, hTT⟩ : ∃ T, (fcs.take k).all Fc.stop = T := ⟨_, rfl⟩
      have HTT := Lib.hid hTT
      rw [hTT]
      clear hTT
      obtain ⟨fs, ⟨fr1, fr2⟩, ⟨fa1, fa2⟩, ⟨ft1, ft2⟩, ⟨fk1, fk2⟩, ⟨fp1, fp2⟩, ⟨fq1, fq2⟩, fg⟩ := f
      have hFF := HFf.out
      rw [hV] at hFF
      have HFG := Lib.hid hFF
      clear hFF hV
      cases V with
      | true =>
        go_wp2_with (first | (go_at_call 105; (refine Calls.mono (HFG.out _ (by repeat (first | exact More.refl _ | refine More.alloc ?_ _ | refine More.more ?_ _ | refine More.drew ?_ | refine More.drewN ?_ _))) ?_); rintro e w' ⟨rfl, r8, rfl⟩))
        all_goals
          go_roundw
          case rel => exact ⟨k + 1, by omega, rfl, by rw [HT.out, HTT.out]; simp_all, HK.out, (by repeat (first | exact More.refl _ | refine More.alloc ?_ _ | refine More.more ?_ _ | refine More.drew ?_ | refine More.drewN ?_ _))⟩
          case measure => simp [intOf] <;> omega
      | false =>
        go_wp2_with (first | (go_at_call 105; (refine Calls.mono (HFG.out _ (by repeat (first | exact More.refl _ | refine More.alloc ?_ _ | refine More.more ?_ _ | refine More.drew ?_ | refine More.drewN ?_ _))) ?_); rintro e w' ⟨rfl, r8, rfl⟩))
        go_returns
        refine ⟨?_, (by repeat (first | exact More.refl _ | refine More.alloc ?_ _ | refine More.more ?_ _ | refine More.drew ?_ | refine More.drewN ?_ _))⟩
        have : fcs.all (knownF (G.map Gl.name)) = false := by
          rw [List.all_eq_false]
          exact ⟨_, List.mem_of_getElem? HF0.out, by rw [HV.out]; simp⟩
        rw [this]
        rfl
    · obtain rfl : k = fcs.length := by omega
      have h1 := HA.out
      have h2 := HS.out
      rw [List.take_length] at h1 ⊢
      rw [h2]
      have HE := Lib.hid h1
      clear h1 h2
      go_wp2_with fail
      go_returns
      exact ⟨by rw [HE.out]; rfl, (by repeat (first | exact More.refl _ | refine More.alloc ?_ _ | refine More.more ?_ _ | refine More.drew ?_ | refine More.drewN ?_ _))⟩
end Go.Proofs.YtggohceeeggnmaaGreat

namespace Go.Proofs.YtggohceeeggnmaaGreat
set_option linter.unusedVariables false
open Go.ChangeShapes Go.WideShapes Go.ChangeAt Go.RowKit

theorem all_up8 {l : List Sf} {k : Nat} {s : Sf} (h : (l.take k).all sfRight = true) (hk : l[k]? = some s) (hs : sfRight s = true) : (l.take (k + 1)).all sfRight = true := by
  rw [List.take_add_one, hk, List.all_append, h]
  simp [hs]
theorem all_no8 {l : List Sf} {k : Nat} {s : Sf} (o : Iv) (hk : l[k]? = some s) (hs : sfRight s = false) : rowsRight l o = false := by
  unfold rowsRight
  have : l.all sfRight = false := by
    rw [List.all_eq_false]
    exact ⟨s, List.mem_of_getElem? hk, by rw [hs]; simp⟩
  rw [this]
  rfl

set_option maxHeartbeats 16000000 in
set_option maxRecDepth 100000 in
theorem rsys8_c (v : Value) (l : List Sf) (o : Iv) (W : World) (hv : Sfs W v l) (hl : l.length ≤ 1000000) :
    Calls Tryz.prog 72 #[.agg #[v, .int .i64 o.lo, .int .i64 o.hi, .bool o.no]] W fun e w' => e = .returned (.bool (rowsRight l o)) ∧ More W w' := by
  obtain ⟨ao, c, rfl, -⟩ := grow_form sfs_pos hv
  obtain ⟨o1, o2, o3⟩ := o
  have HV := Lib.hid hv
  clear hv
  dsimp only
  go_enter Tryz.func72, Tryz.ntmps72
  go_wp2_with fail
  go_loopw [3] (fun i wr => ∃ k : Nat, k ≤ l.length ∧ i = .int .i64 k ∧ (l.take k).all sfRight = true ∧ More (W.alloc (.cells #[.slice ao l.length c, .int .i64 o1, .int .i64 o2, .bool o3] 29)) wr) (fun i _ => l.length - (intOf i).toNat)
  case atStart => exact ⟨0, by omega, rfl, rfl, (by repeat (first | exact More.refl _ | refine More.alloc ?_ _ | refine More.more ?_ _ | refine More.drew ?_ | refine More.drewN ?_ _))⟩
  case round =>
    obtain ⟨k, hk, rfl, ha, s, rfl⟩ := hrel
    have HA := Lib.hid ha
    clear ha
    by_cases hkl : k < l.length
    · obtain ⟨f, hf⟩ : ∃ f, l[k]? = some f := ⟨l[k], List.getElem?_eq_getElem hkl⟩
      obtain ⟨b, off, rfl, hb, hL, -⟩ := sfs_at (w := W) HV.out hf
      have hL2 : ∀ r, (loadWhole 43 ⟨b, off + k * 23, none⟩).run Tryz.prog (more (W.alloc (.cells #[.slice (some ⟨b, off, none⟩) l.length c, .int .i64 o1, .int .i64 o2, .bool o3] 29)) r) = .ok (sfV f) (more (W.alloc (.cells #[.slice (some ⟨b, off, none⟩) l.length c, .int .i64 o1, .int .i64 o2, .bool o3] 29)) r) := by
        intro r
        have hM : More W (more (W.alloc (.cells #[.slice (some ⟨b, off, none⟩) l.length c, .int .i64 o1, .int .i64 o2, .bool o3] 29)) r) := (by repeat (first | exact More.refl _ | refine More.alloc ?_ _ | refine More.more ?_ _ | refine More.drew ?_ | refine More.drewN ?_ _))
        obtain ⟨r', hr⟩ := hM
        rw [hr]
        exact hL _
      clear hL
      have HF := Lib.hid hf
      clear hf
      obtain ⟨fs, fb, ⟨c1, c2, c3⟩, ⟨k1, k2, k3⟩, ⟨a1, a2, a3⟩, ⟨b1, b2, b3⟩, ⟨p1, p2, p3⟩, ⟨q1, q2, q3⟩, ⟨r1, r2, r3⟩⟩ := f
      have hcase : (ivRight ⟨c1, c2, c3⟩ = false) ∨ (ivRight ⟨c1, c2, c3⟩ = true ∧ ivRight ⟨k1, k2, k3⟩ = false) ∨ (ivRight ⟨c1, c2, c3⟩ = true ∧ ivRight ⟨k1, k2, k3⟩ = true ∧ ivRight ⟨a1, a2, a3⟩ = false) ∨ (ivRight ⟨c1, c2, c3⟩ = true ∧ ivRight ⟨k1, k2, k3⟩ = true ∧ ivRight ⟨a1, a2, a3⟩ = true ∧ ivRight ⟨b1, b2, b3⟩ = false) ∨ (ivRight ⟨c1, c2, c3⟩ = true ∧ ivRight ⟨k1, k2, k3⟩ = true ∧ ivRight ⟨a1, a2, a3⟩ = true ∧ ivRight ⟨b1, b2, b3⟩ = true ∧ ivRight ⟨p1, p2, p3⟩ = false) ∨ (ivRight ⟨c1, c2, c3⟩ = true ∧ ivRight ⟨k1, k2, k3⟩ = true ∧ ivRight ⟨a1, a2, a3⟩ = true ∧ ivRight ⟨b1, b2, b3⟩ = true ∧ ivRight ⟨p1, p2, p3⟩ = true ∧ ivRight ⟨q1, q2, q3⟩ = false) ∨ (ivRight ⟨c1, c2, c3⟩ = true ∧ ivRight ⟨k1, k2, k3⟩ = true ∧ ivRight ⟨a1, a2, a3⟩ = true ∧ ivRight ⟨b1, b2, b3⟩ = true ∧ ivRight ⟨p1, p2, p3⟩ = true ∧ ivRight ⟨q1, q2, q3⟩ = true ∧ ivRight ⟨r1, r2, r3⟩ = false) ∨ (ivRight ⟨c1, c2, c3⟩ = true ∧ ivRight ⟨k1, k2, k3⟩ = true ∧ ivRight ⟨a1, a2, a3⟩ = true ∧ ivRight ⟨b1, b2, b3⟩ = true ∧ ivRight ⟨p1, p2, p3⟩ = true ∧ ivRight ⟨q1, q2, q3⟩ = true ∧ ivRight ⟨r1, r2, r3⟩ = true) := by
        cases h0 : ivRight ⟨c1, c2, c3⟩
        · exact .inl rfl
        cases h1 : ivRight ⟨k1, k2, k3⟩
        · exact .inr (.inl ⟨rfl, rfl⟩)
        cases h2 : ivRight ⟨a1, a2, a3⟩
        · exact .inr (.inr (.inl ⟨rfl, rfl, rfl⟩))
        cases h3 : ivRight ⟨b1, b2, b3⟩
        · exact .inr (.inr (.inr (.inl ⟨rfl, rfl, rfl, rfl⟩)))
        cases h4 : ivRight ⟨p1, p2, p3⟩
        · exact .inr (.inr (.inr (.inr (.inl ⟨rfl, rfl, rfl, rfl, rfl⟩))))
        cases h5 : ivRight ⟨q1, q2, q3⟩
        · exact .inr (.inr (.inr (.inr (.inr (.inl ⟨rfl, rfl, rfl, rfl, rfl, rfl⟩)))))
        cases h6 : ivRight ⟨r1, r2, r3⟩
        · exact .inr (.inr (.inr (.inr (.inr (.inr (.inl ⟨rfl, rfl, rfl, rfl, rfl, rfl, rfl⟩))))))
        exact .inr (.inr (.inr (.inr (.inr (.inr (.inr (⟨rfl, rfl, rfl, rfl, rfl, rfl, rfl⟩)))))))
      rcases hcase with g0 | ⟨g0, g1⟩ | ⟨g0, g1, g2⟩ | ⟨g0, g1, g2, g3⟩ | ⟨g0, g1, g2, g3, g4⟩ | ⟨g0, g1, g2, g3, g4, g5⟩ | ⟨g0, g1, g2, g3, g4, g5, g6⟩ | ⟨g0, g1, g2, g3, g4, g5, g6⟩
      · have hV : sfRight ⟨fs, fb, ⟨c1, c2, c3⟩, ⟨k1, k2, k3⟩, ⟨a1, a2, a3⟩, ⟨b1, b2, b3⟩, ⟨p1, p2, p3⟩, ⟨q1, q2, q3⟩, ⟨r1, r2, r3⟩⟩ = false := by
          unfold sfRight
          dsimp only
          rw [g0]
          first | rfl | simp
        have HVV := Lib.hid hV
        clear hV
        go_wp2_with (first | (go_at_call 85; (with_reducible refine (rright_c _ _).mono ?_); rintro e w' ⟨rfl, r, rfl⟩) | (go_at_call 85; (with_reducible refine (rright_c ⟨_, _, _⟩ _).mono ?_); rintro e w' ⟨rfl, r, rfl⟩))
        go_returns
        exact ⟨by rw [all_no8 _ HF.out HVV.out]; rfl, (by repeat (first | exact More.refl _ | refine More.alloc ?_ _ | refine More.more ?_ _ | refine More.drew ?_ | refine More.drewN ?_ _))⟩
      · have hV : sfRight ⟨fs, fb, ⟨c1, c2, c3⟩, ⟨k1, k2, k3⟩, ⟨a1, a2, a3⟩, ⟨b1, b2, b3⟩, ⟨p1, p2, p3⟩, ⟨q1, q2, q3⟩, ⟨r1, r2, r3⟩⟩ = false := by
          unfold sfRight
          dsimp only
          rw [g0, g1]
          first | rfl | simp
        have HVV := Lib.hid hV
        clear hV
        go_wp2_with (first | (go_at_call 85; (with_reducible refine (rright_c _ _).mono ?_); rintro e w' ⟨rfl, r, rfl⟩) | (go_at_call 85; (with_reducible refine (rright_c ⟨_, _, _⟩ _).mono ?_); rintro e w' ⟨rfl, r, rfl⟩))
        go_returns
        exact ⟨by rw [all_no8 _ HF.out HVV.out]; rfl, (by repeat (first | exact More.refl _ | refine More.alloc ?_ _ | refine More.more ?_ _ | refine More.drew ?_ | refine More.drewN ?_ _))⟩
      · have hV : sfRight ⟨fs, fb, ⟨c1, c2, c3⟩, ⟨k1, k2, k3⟩, ⟨a1, a2, a3⟩, ⟨b1, b2, b3⟩, ⟨p1, p2, p3⟩, ⟨q1, q2, q3⟩, ⟨r1, r2, r3⟩⟩ = false := by
          unfold sfRight
          dsimp only
          rw [g0, g1, g2]
          first | rfl | simp
        have HVV := Lib.hid hV
        clear hV
        go_wp2_with (first | (go_at_call 85; (with_reducible refine (rright_c _ _).mono ?_); rintro e w' ⟨rfl, r, rfl⟩) | (go_at_call 85; (with_reducible refine (rright_c ⟨_, _, _⟩ _).mono ?_); rintro e w' ⟨rfl, r, rfl⟩))
        go_returns
        exact ⟨by rw [all_no8 _ HF.out HVV.out]; rfl, (by repeat (first | exact More.refl _ | refine More.alloc ?_ _ | refine More.more ?_ _ | refine More.drew ?_ | refine More.drewN ?_ _))⟩
      · have hV : sfRight ⟨fs, fb, ⟨c1, c2, c3⟩, ⟨k1, k2, k3⟩, ⟨a1, a2, a3⟩, ⟨b1, b2, b3⟩, ⟨p1, p2, p3⟩, ⟨q1, q2, q3⟩, ⟨r1, r2, r3⟩⟩ = false := by
          unfold sfRight
          dsimp only
          rw [g0, g1, g2, g3]
          first | rfl | simp
        have HVV := Lib.hid hV
        clear hV
        go_wp2_with (first | (go_at_call 85; (with_reducible refine (rright_c _ _).mono ?_); rintro e w' ⟨rfl, r, rfl⟩) | (go_at_call 85; (with_reducible refine (rright_c ⟨_, _, _⟩ _).mono ?_); rintro e w' ⟨rfl, r, rfl⟩))
        go_returns
        exact ⟨by rw [all_no8 _ HF.out HVV.out]; rfl, (by repeat (first | exact More.refl _ | refine More.alloc ?_ _ | refine More.more ?_ _ | refine More.drew ?_ | refine More.drewN ?_ _))⟩
      · have hV : sfRight ⟨fs, fb, ⟨c1, c2, c3⟩, ⟨k1, k2, k3⟩, ⟨a1, a2, a3⟩, ⟨b1, b2, b3⟩, ⟨p1, p2, p3⟩, ⟨q1, q2, q3⟩, ⟨r1, r2, r3⟩⟩ = false := by
          unfold sfRight
          dsimp only
          rw [g0, g1, g2, g3, g4]
          first | rfl | simp
        have HVV := Lib.hid hV
        clear hV
        go_wp2_with (first | (go_at_call 85; (with_reducible refine (rright_c _ _).mono ?_); rintro e w' ⟨rfl, r, rfl⟩) | (go_at_call 85; (with_reducible refine (rright_c ⟨_, _, _⟩ _).mono ?_); rintro e w' ⟨rfl, r, rfl⟩))
        go_returns
        exact ⟨by rw [all_no8 _ HF.out HVV.out]; rfl, (by repeat (first | exact More.refl _ | refine More.alloc ?_ _ | refine More.more ?_ _ | refine More.drew ?_ | refine More.drewN ?_ _))⟩
      · have hV : sfRight ⟨fs, fb, ⟨c1, c2, c3⟩, ⟨k1, k2, k3⟩, ⟨a1, a2, a3⟩, ⟨b1, b2, b3⟩, ⟨p1, p2, p3⟩, ⟨q1, q2, q3⟩, ⟨r1, r2, r3⟩⟩ = false := by
          unfold sfRight
          dsimp only
          rw [g0, g1, g2, g3, g4, g5]
          first | rfl | simp
        have HVV := Lib.hid hV
        clear hV
        go_wp2_with (first | (go_at_call 85; (with_reducible refine (rright_c _ _).mono ?_); rintro e w' ⟨rfl, r, rfl⟩) | (go_at_call 85; (with_reducible refine (rright_c ⟨_, _, _⟩ _).mono ?_); rintro e w' ⟨rfl, r, rfl⟩))
        go_returns
        exact ⟨by rw [all_no8 _ HF.out HVV.out]; rfl, (by repeat (first | exact More.refl _ | refine More.alloc ?_ _ | refine More.more ?_ _ | refine More.drew ?_ | refine More.drewN ?_ _))⟩
      · have hV : sfRight ⟨fs, fb, ⟨c1, c2, c3⟩, ⟨k1, k2, k3⟩, ⟨a1, a2, a3⟩, ⟨b1, b2, b3⟩, ⟨p1, p2, p3⟩, ⟨q1, q2, q3⟩, ⟨r1, r2, r3⟩⟩ = false := by
          unfold sfRight
          dsimp only
          rw [g0, g1, g2, g3, g4, g5, g6]
          first | rfl | simp
        have HVV := Lib.hid hV
        clear hV
        go_wp2_with (first | (go_at_call 85; (with_reducible refine (rright_c _ _).mono ?_); rintro e w' ⟨rfl, r, rfl⟩) | (go_at_call 85; (with_reducible refine (rright_c ⟨_, _, _⟩ _).mono ?_); rintro e w' ⟨rfl, r, rfl⟩))
        go_returns
        exact ⟨by rw [all_no8 _ HF.out HVV.out]; rfl, (by repeat (first | exact More.refl _ | refine More.alloc ?_ _ | refine More.more ?_ _ | refine More.drew ?_ | refine More.drewN ?_ _))⟩
      · have hV : sfRight ⟨fs, fb, ⟨c1, c2, c3⟩, ⟨k1, k2, k3⟩, ⟨a1, a2, a3⟩, ⟨b1, b2, b3⟩, ⟨p1, p2, p3⟩, ⟨q1, q2, q3⟩, ⟨r1, r2, r3⟩⟩ = true := by
          unfold sfRight
          dsimp only
          rw [g0, g1, g2, g3, g4, g5, g6]
          first | rfl | simp
        have HVV := Lib.hid hV
        clear hV
        go_wp2_with (first | (go_at_call 85; (with_reducible refine (rright_c _ _).mono ?_); rintro e w' ⟨rfl, r, rfl⟩) | (go_at_call 85; (with_reducible refine (rright_c ⟨_, _, _⟩ _).mono ?_); rintro e w' ⟨rfl, r, rfl⟩))
        go_roundw
        case rel => exact ⟨k + 1, by omega, rfl, all_up8 HA.out HF.out HVV.out, (by repeat (first | exact More.refl _ | refine More.alloc ?_ _ | refine More.more ?_ _ | refine More.drew ?_ | refine More.drewN ?_ _))⟩
        case measure => simp [intOf] <;> omega
    · obtain rfl : k = l.length := by omega
      have hr : rowsRight l ⟨o1, o2, o3⟩ = ivRight ⟨o1, o2, o3⟩ := by
        have h := HA.out
        rw [List.take_length] at h
        unfold rowsRight
        rw [h]
        rfl
      have HR := Lib.hid hr
      clear hr
      go_wp2_with (first | (go_at_call 85; (with_reducible refine (rright_c _ _).mono ?_); rintro e w' ⟨rfl, r, rfl⟩) | (go_at_call 85; (with_reducible refine (rright_c ⟨_, _, _⟩ _).mono ?_); rintro e w' ⟨rfl, r, rfl⟩))
      go_returns
      exact ⟨by rw [HR.out]; rfl, (by repeat (first | exact More.refl _ | refine More.alloc ?_ _ | refine More.more ?_ _ | refine More.drew ?_ | refine More.drewN ?_ _))⟩
end Go.Proofs.YtggohceeeggnmaaGreat
