/-
  The reference's small functions: a decimal that is 0, above 0, without its sign, printable; a word; a glass of that name; a face; a lens.
-/
import Derived.Test.YtblbfommjfekeaaGreatDoorSurf
import Derived.Test.YtblbfommjfekeaaGreatDoorGlassRf
import Derived.Test.YtblbfommjfekeaaGreatDoorGe
import Derived.Test.YtblbfommjfekeaaGreatDoorGlass
import Derived.Test.YtblbfommjfekeaaGreatDoorGj
import Derived.Test.YtblbfommjfekeaaGreatDoorGlassRdW
namespace Go.Proofs.YtblbfommjfekeaaGreatDoor
set_option linter.unusedVariables false
open Go.ChangeShapes Go.WideShapes Go.ChangeAt Go.RowKit

set_option maxHeartbeats 4000000 in
theorem zero8_c (d : Dec) (W : World) :
    Calls Tryz.prog 52 #[decV d] W fun e w' => e = .returned (.bool (isZ d)) ∧ More W w' := by
  obtain ⟨c, s⟩ := d
  have E := eql_dec0 c s
  go_enter Tryz.func52, Tryz.ntmps52
  go_wp2_with fail
  go_returns
  exact ⟨rfl, (by repeat (first | exact More.refl _ | refine More.alloc ?_ _ | refine More.more ?_ _ | refine More.drew ?_ | refine More.drewN ?_ _))⟩

set_option maxHeartbeats 4000000 in
theorem above8_c (d : Dec) (W : World) :
    Calls Tryz.prog 93 #[decV d] W fun e w' => e = .returned (.bool (decide (0 < d.c))) ∧ More W w' := by
  obtain ⟨c, s⟩ := d
  by_cases h : 0 < c
  · have hd : decide (0 < c) = true := by simpa using h
    rw [hd]
    go_enter Tryz.func93, Tryz.ntmps93
    go_wp2_with fail
    go_returns
    exact ⟨rfl, (by repeat (first | exact More.refl _ | refine More.alloc ?_ _ | refine More.more ?_ _ | refine More.drew ?_ | refine More.drewN ?_ _))⟩
  · have hd : decide (0 < c) = false := by simpa using h
    rw [hd]
    go_enter Tryz.func93, Tryz.ntmps93
    go_wp2_with fail
    go_returns
    exact ⟨rfl, (by repeat (first | exact More.refl _ | refine More.alloc ?_ _ | refine More.more ?_ _ | refine More.drew ?_ | refine More.drewN ?_ _))⟩

set_option maxHeartbeats 4000000 in
theorem size8_c (d : Dec) (h0 : -100000000000 ≤ d.c) (h1 : d.c ≤ 100000000000) (W : World) :
    Calls Tryz.prog 127 #[decV d] W fun e w' => e = .returned (decV ⟨max d.c (-d.c), d.s⟩) ∧ More W w' := by
  obtain ⟨c, s⟩ := d
  dsimp only at h0 h1
  go_enter Tryz.func127, Tryz.ntmps127
  go_wp2_with fail
  go_returns
  exact ⟨rfl, (by repeat (first | exact More.refl _ | refine More.alloc ?_ _ | refine More.more ?_ _ | refine More.drew ?_ | refine More.drewN ?_ _))⟩

theorem ok_print {d : Dec} (h : OkDec d) : ∃ c w, printP d = c :: w := by
  rcases dec_it h.1 h.2 with ⟨e, -⟩ | ⟨-, c, w, e, -⟩
  · cases e
  · exact ⟨c, w, e⟩

set_option maxHeartbeats 4000000 in
theorem printable8_c (d : Dec) (h : OkDec d) (W : World) :
    Calls Tryz.prog 92 #[decV d] W fun e w' => e = .returned (.bool true) ∧ More W w' := by
  obtain ⟨c, w, e⟩ := ok_print h
  obtain ⟨l, hl⟩ : ∃ l, printP d = l := ⟨_, rfl⟩
  have hq : l.isEmpty = false := by rw [← hl, e]; rfl
  have HL := Lib.hid hl
  rw [hl] at e
  clear hl e h
  obtain ⟨dc, ds⟩ := d
  go_enter Tryz.func92, Tryz.ntmps92
  go_wp2_with fail
  go_at_call 125
  refine Calls.mono (print8_c ⟨dc, ds⟩ _) ?_
  rintro e w' ⟨rfl, r, rfl⟩
  rw [HL.out]
  go_wp2_with fail
  go_returns
  exact ⟨rfl, (by repeat (first | exact More.refl _ | refine More.alloc ?_ _ | refine More.more ?_ _ | refine More.drew ?_ | refine More.drewN ?_ _))⟩

set_option maxHeartbeats 4000000 in
theorem word8_c (t : List UInt8) (h : OkName t) (W : World) : Calls Tryz.prog 91 #[.string (bsOf t)] W fun e w' => e = .returned (.bool true) ∧ More W w' := by
  obtain ⟨c, w, rfl, hc, hw, hl⟩ := h
  have h0 : isLz (byteAt (c :: w) 0) = true := by rw [isLz_at]; exact hc
  have hall : ∀ k, k < (c :: w).length → isWz (byteAt (c :: w) k) = true := by
    intro k hk
    rw [isWz_at]
    match k, hk with
    | 0, _ =>
      show isW c = true
      unfold isW
      rw [hc]
      rfl
    | k + 1, hk =>
      have hk' : k < w.length := by simpa using hk
      show isW (w.getD k 0) = true
      rw [List.getD_eq_getElem?_getD, List.getElem?_eq_getElem hk']
      exact List.all_eq_true.1 hw _ (List.getElem_mem hk')
  have hn : 1 ≤ (c :: w).length ∧ (c :: w).length ≤ 20 := by simp; omega
  obtain ⟨l, hL⟩ : ∃ l, c :: w = l := ⟨_, rfl⟩
  rw [hL] at h0 hall hn ⊢
  obtain ⟨n1, n2⟩ := hn
  clear hL hc hw hl
  have hq : (((l.length : Nat) : Int) == 0) = false := beq_false_of_ne (by omega)
  have HALL := Lib.hid hall
  clear hall
  go_enter Tryz.func91, Tryz.ntmps91
  go_wp2_with (first | (go_at_call 123; (with_reducible refine (rletter_c _ _).mono ?_); rintro e w' ⟨rfl, rfl⟩) | (go_at_call 124; (with_reducible refine (rinWord_c _ _).mono ?_); rintro e w' ⟨rfl, rfl⟩))
  go_loopw [3] (fun i wr => ∃ k : Nat, k ≤ l.length ∧ i = .int .i64 k ∧ More W wr) (fun i _ => l.length - (intOf i).toNat)
  case atStart => exact ⟨0, by omega, rfl, (by repeat (first | exact More.refl _ | refine More.alloc ?_ _ | refine More.more ?_ _ | refine More.drew ?_ | refine More.drewN ?_ _))⟩
  case round =>
    obtain ⟨k, hk, rfl, s, rfl⟩ := hrel
    by_cases hkl : k < l.length
    · have hw := HALL.out k hkl
      go_wp2_with (first | (go_at_call 123; (with_reducible refine (rletter_c _ _).mono ?_); rintro e w' ⟨rfl, rfl⟩) | (go_at_call 124; (with_reducible refine (rinWord_c _ _).mono ?_); rintro e w' ⟨rfl, rfl⟩))
      go_roundw
      case rel => exact ⟨k + 1, by omega, rfl, (by repeat (first | exact More.refl _ | refine More.alloc ?_ _ | refine More.more ?_ _ | refine More.drew ?_ | refine More.drewN ?_ _))⟩
      case measure => simp [intOf] <;> omega
    · obtain rfl : k = l.length := by omega
      go_wp2_with (first | (go_at_call 123; (with_reducible refine (rletter_c _ _).mono ?_); rintro e w' ⟨rfl, rfl⟩) | (go_at_call 124; (with_reducible refine (rinWord_c _ _).mono ?_); rintro e w' ⟨rfl, rfl⟩))
      go_returns
      exact ⟨rfl, (by repeat (first | exact More.refl _ | refine More.alloc ?_ _ | refine More.more ?_ _ | refine More.drew ?_ | refine More.drewN ?_ _))⟩

set_option maxHeartbeats 8000000 in
set_option maxRecDepth 100000 in
theorem rfind8_c (v : Value) (l : List Gl) (t : List UInt8) (W : World) (hv : Gls W v l) (hl : l.length ≤ 1000000) (ht : t.length ≤ 1000000) :
    Calls Tryz.prog 56 #[v, .string (bsOf t)] W fun e w' => e = .returned (.tuple #[glV (findG t l), .bool (hasName t l)]) ∧ More W w' := by
  obtain ⟨ao, c, rfl, -⟩ := grow_form gls_pos hv
  go_enter Tryz.func56, Tryz.ntmps56
  go_wp2_with fail
  go_loopw [6] (fun x wr => ∃ k : Nat, k ≤ l.length ∧ x = .int .i64 k ∧ (∀ (j : Nat) (g : Gl), j < k → l[j]? = some g → g.name ≠ t) ∧ Gls wr (.slice ao l.length c) l ∧ More (W.alloc (.cells #[.string ⟨#[]⟩, .int .i64 0, .int .i64 0, .int .i64 0, .int .i64 0, .int .i64 0, .int .i64 0, .int .i64 0, .int .i64 0, .int .i64 0, .int .i64 0, .int .i64 0, .int .i64 0] 46)) wr) (fun x _ => l.length - (intOf x).toNat)
  case atStart => exact ⟨0, by omega, rfl, fun j g h => by omega, hv.up (by repeat (first | exact More.refl _ | refine More.alloc ?_ _ | refine More.more ?_ _ | refine More.drew ?_ | refine More.drewN ?_ _)), More.refl _⟩
  case round =>
    obtain ⟨k, hk, rfl, hno, hG, s, rfl⟩ := hrel
    have HN := Lib.hid hno
    have HG := Lib.hid hG
    clear hno hv
    by_cases hkl : k < l.length
    · obtain ⟨g, hg⟩ : ∃ g, l[k]? = some g := ⟨l[k], List.getElem?_eq_getElem hkl⟩
      obtain ⟨b, o, rfl, hb, hL, hL0⟩ := gls_at hG hg
      have f0 := gcell hG hg 0 _ rfl
      rw [Nat.add_zero] at f0
      clear hG
      have HK := Lib.hid hg
      clear hg
      rw [size_more] at hb
      by_cases he : g.name = t
      · have hq : (g.name == t) = true := by simpa using he
        have HE := Lib.hid he
        clear he
        go_wp2_with fail
        go_returns
        refine ⟨?_, (by repeat (first | exact More.refl _ | refine More.alloc ?_ _ | refine More.more ?_ _ | refine More.drew ?_ | refine More.drewN ?_ _))⟩
        obtain ⟨e1, e2⟩ := find_yes HN.out HK.out HE.out
        rw [e1, e2]
      · have hq : (g.name == t) = false := by simpa using he
        have HE := Lib.hid he
        clear he
        go_wp2_with fail
        go_roundw
        case rel => exact ⟨k + 1, by omega, rfl, up_to (p := fun g => g.name ≠ t) HN.out HK.out HE.out, HG.out.up (by repeat (first | exact More.refl _ | refine More.alloc ?_ _ | refine More.more ?_ _ | refine More.drew ?_ | refine More.drewN ?_ _)), (by repeat (first | exact More.refl _ | refine More.alloc ?_ _ | refine More.more ?_ _ | refine More.drew ?_ | refine More.drewN ?_ _))⟩
        case measure => simp [intOf] <;> omega
    · obtain rfl : k = l.length := by omega
      go_wp2_with fail
      go_returns
      refine ⟨?_, (by repeat (first | exact More.refl _ | refine More.alloc ?_ _ | refine More.more ?_ _ | refine More.drew ?_ | refine More.drewN ?_ _))⟩
      obtain ⟨e1, e2⟩ := find_no (t := t) (l := l) fun j g hj => HN.out j g (List.getElem?_eq_some_iff.1 hj).1 hj
      rw [e1, e2]
      rfl

end Go.Proofs.YtblbfommjfekeaaGreatDoor

