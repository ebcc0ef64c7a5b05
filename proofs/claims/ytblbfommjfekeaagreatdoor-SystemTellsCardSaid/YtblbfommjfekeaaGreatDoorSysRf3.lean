/-
  Is no number of a system None? (the reference's)
-/
import Derived.Test.YtblbfommjfekeaaGreatDoorSysRf2
import Derived.Test.YtblbfommjfekeaaGreatDoorSysMath
namespace Go.Proofs.YtblbfommjfekeaaGreatDoor
set_option linter.unusedVariables false
open Go.ChangeShapes Go.WideShapes Go.ChangeAt Go.RowKit

theorem all_up8 {l : List Sf} {k : Nat} {s : Sf} (h : (l.take k).all sfRight = true) (hk : l[k]? = some s) (hs : sfRight s = true) : (l.take (k + 1)).all sfRight = true := by
  rw [List.take_add_one, hk, List.all_append, h]
  simp [hs]
theorem all_no8 {l : List Sf} {k : Nat} {s : Sf} (o : Iv) (hk : l[k]? = some s) (hs : sfRight s = false) : rowsRight l o = false := by
  unfold rowsRight
  have : l.all sfRight = false := by
    rw [List.all_eq_false]
    exact ⟨s, List.mem_of_getElem? hk, by rw [hs]; simp⟩
  rw [this]
  rfl

set_option maxHeartbeats 16000000 in
set_option maxRecDepth 100000 in
theorem rsys8_c (v : Value) (l : List Sf) (o : Iv) (W : World) (hv : Sfs W v l) (hl : l.length ≤ 1000000) :
    Calls Tryz.prog 58 #[.agg #[v, .int .i64 o.lo, .int .i64 o.hi, .bool o.no]] W fun e w' => e = .returned (.bool (rowsRight l o)) ∧ More W w' := by
  obtain ⟨ao, c, rfl, -⟩ := grow_form sfs_pos hv
  obtain ⟨o1, o2, o3⟩ := o
  have HV := Lib.hid hv
  clear hv
  dsimp only
  go_enter Tryz.func58, Tryz.ntmps58
  go_wp2_with fail
  go_loopw [3] (fun i wr => ∃ k : Nat, k ≤ l.length ∧ i = .int .i64 k ∧ (l.take k).all sfRight = true ∧ More (W.alloc (.cells #[.slice ao l.length c, .int .i64 o1, .int .i64 o2, .bool o3] 38)) wr) (fun i _ => l.length - (intOf i).toNat)
  case atStart => exact ⟨0, by omega, rfl, rfl, (by repeat (first | exact More.refl _ | refine More.alloc ?_ _ | refine More.more ?_ _ | refine More.drew ?_ | refine More.drewN ?_ _))⟩
  case round =>
    obtain ⟨k, hk, rfl, ha, s, rfl⟩ := hrel
    have HA := Lib.hid ha
    clear ha
    by_cases hkl : k < l.length
    · obtain ⟨f, hf⟩ : ∃ f, l[k]? = some f := ⟨l[k], List.getElem?_eq_getElem hkl⟩
      obtain ⟨b, off, rfl, hb, hL, -⟩ := sfs_at (w := W) HV.out hf
      have hL2 : ∀ r, (loadWhole 48 ⟨b, off + k * 23, none⟩).run Tryz.prog (more (W.alloc (.cells #[.slice (some ⟨b, off, none⟩) l.length c, .int .i64 o1, .int .i64 o2, .bool o3] 38)) r) = .ok (sfV f) (more (W.alloc (.cells #[.slice (some ⟨b, off, none⟩) l.length c, .int .i64 o1, .int .i64 o2, .bool o3] 38)) r) := by
        intro r
        have hM : More W (more (W.alloc (.cells #[.slice (some ⟨b, off, none⟩) l.length c, .int .i64 o1, .int .i64 o2, .bool o3] 38)) r) := (by repeat (first | exact More.refl _ | refine More.alloc ?_ _ | refine More.more ?_ _ | refine More.drew ?_ | refine More.drewN ?_ _))
        obtain ⟨r', hr⟩ := hM
        rw [hr]
        exact hL _
      clear hL
      have HF := Lib.hid hf
      clear hf
      obtain ⟨fs, fb, ⟨c1, c2, c3⟩, ⟨k1, k2, k3⟩, ⟨a1, a2, a3⟩, ⟨b1, b2, b3⟩, ⟨p1, p2, p3⟩, ⟨q1, q2, q3⟩, ⟨r1, r2, r3⟩⟩ := f
      have hcase : (ivRight ⟨c1, c2, c3⟩ = false) ∨ (ivRight ⟨c1, c2, c3⟩ = true ∧ ivRight ⟨k1, k2, k3⟩ = false) ∨ (ivRight ⟨c1, c2, c3⟩ = true ∧ ivRight ⟨k1, k2, k3⟩ = true ∧ ivRight ⟨a1, a2, a3⟩ = false) ∨ (ivRight ⟨c1, c2, c3⟩ = true ∧ ivRight ⟨k1, k2, k3⟩ = true ∧ ivRight ⟨a1, a2, a3⟩ = true ∧ ivRight ⟨b1, b2, b3⟩ = false) ∨ (ivRight ⟨c1, c2, c3⟩ = true ∧ ivRight ⟨k1, k2, k3⟩ = true ∧ ivRight ⟨a1, a2, a3⟩ = true ∧ ivRight ⟨b1, b2, b3⟩ = true ∧ ivRight ⟨p1, p2, p3⟩ = false) ∨ (ivRight ⟨c1, c2, c3⟩ = true ∧ ivRight ⟨k1, k2, k3⟩ = true ∧ ivRight ⟨a1, a2, a3⟩ = true ∧ ivRight ⟨b1, b2, b3⟩ = true ∧ ivRight ⟨p1, p2, p3⟩ = true ∧ ivRight ⟨q1, q2, q3⟩ = false) ∨ (ivRight ⟨c1, c2, c3⟩ = true ∧ ivRight ⟨k1, k2, k3⟩ = true ∧ ivRight ⟨a1, a2, a3⟩ = true ∧ ivRight ⟨b1, b2, b3⟩ = true ∧ ivRight ⟨p1, p2, p3⟩ = true ∧ ivRight ⟨q1, q2, q3⟩ = true ∧ ivRight ⟨r1, r2, r3⟩ = false) ∨ (ivRight ⟨c1, c2, c3⟩ = true ∧ ivRight ⟨k1, k2, k3⟩ = true ∧ ivRight ⟨a1, a2, a3⟩ = true ∧ ivRight ⟨b1, b2, b3⟩ = true ∧ ivRight ⟨p1, p2, p3⟩ = true ∧ ivRight ⟨q1, q2, q3⟩ = true ∧ ivRight ⟨r1, r2, r3⟩ = true) := by
        cases h0 : ivRight ⟨c1, c2, c3⟩
        · exact .inl rfl
        cases h1 : ivRight ⟨k1, k2, k3⟩
        · exact .inr (.inl ⟨rfl, rfl⟩)
        cases h2 : ivRight ⟨a1, a2, a3⟩
        · exact .inr (.inr (.inl ⟨rfl, rfl, rfl⟩))
        cases h3 : ivRight ⟨b1, b2, b3⟩
        · exact .inr (.inr (.inr (.inl ⟨rfl, rfl, rfl, rfl⟩)))
        cases h4 : ivRight ⟨p1, p2, p3⟩
        · exact .inr (.inr (.inr (.inr (.inl ⟨rfl, rfl, rfl, rfl, rfl⟩))))
        cases h5 : ivRight ⟨q1, q2, q3⟩
        · exact .inr (.inr (.inr (.inr (.inr (.inl ⟨rfl, rfl, rfl, rfl, rfl, rfl⟩)))))
        cases h6 : ivRight ⟨r1, r2, r3⟩
        · exact .inr (.inr (.inr (.inr (.inr (.inr (.inl ⟨rfl, rfl, rfl, rfl, rfl, rfl, rfl⟩))))))
        exact .inr (.inr (.inr (.inr (.inr (.inr (.inr (⟨rfl, rfl, rfl, rfl, rfl, rfl, rfl⟩)))))))
      rcases hcase with g0 | ⟨g0, g1⟩ | ⟨g0, g1, g2⟩ | ⟨g0, g1, g2, g3⟩ | ⟨g0, g1, g2, g3, g4⟩ | ⟨g0, g1, g2, g3, g4, g5⟩ | ⟨g0, g1, g2, g3, g4, g5, g6⟩ | ⟨g0, g1, g2, g3, g4, g5, g6⟩
      · have hV : sfRight ⟨fs, fb, ⟨c1, c2, c3⟩, ⟨k1, k2, k3⟩, ⟨a1, a2, a3⟩, ⟨b1, b2, b3⟩, ⟨p1, p2, p3⟩, ⟨q1, q2, q3⟩, ⟨r1, r2, r3⟩⟩ = false := by
          unfold sfRight
          dsimp only
          rw [g0]
          first | rfl | simp
        have HVV := Lib.hid hV
        clear hV
        go_wp2_with (first | (go_at_call 100; (with_reducible refine (rright_c _ _).mono ?_); rintro e w' ⟨rfl, r, rfl⟩) | (go_at_call 100; (with_reducible refine (rright_c ⟨_, _, _⟩ _).mono ?_); rintro e w' ⟨rfl, r, rfl⟩))
        go_returns
        exact ⟨by rw [all_no8 _ HF.out HVV.out]; rfl, (by repeat (first | exact More.refl _ | refine More.alloc ?_ _ | refine More.more ?_ _ | refine More.drew ?_ | refine More.drewN ?_ _))⟩
      · have hV : sfRight ⟨fs, fb, ⟨c1, c2, c3⟩, ⟨k1, k2, k3⟩, ⟨a1, a2, a3⟩, ⟨b1, b2, b3⟩, ⟨p1, p2, p3⟩, ⟨q1, q2, q3⟩, ⟨r1, r2, r3⟩⟩ = false := by
          unfold sfRight
          dsimp only
          rw [g0, g1]
          first | rfl | simp
        have HVV := Lib.hid hV
        clear hV
        go_wp2_with (first | (go_at_call 100; (with_reducible refine (rright_c _ _).mono ?_); rintro e w' ⟨rfl, r, rfl⟩) | (go_at_call 100; (with_reducible refine (rright_c ⟨_, _, _⟩ _).mono ?_); rintro e w' ⟨rfl, r, rfl⟩))
        go_returns
        exact ⟨by rw [all_no8 _ HF.out HVV.out]; rfl, (by repeat (first | exact More.refl _ | refine More.alloc ?_ _ | refine More.more ?_ _ | refine More.drew ?_ | refine More.drewN ?_ _))⟩
      · have hV : sfRight ⟨fs, fb, ⟨c1, c2, c3⟩, ⟨k1, k2, k3⟩, ⟨a1, a2, a3⟩, ⟨b1, b2, b3⟩, ⟨p1, p2, p3⟩, ⟨q1, q2, q3⟩, ⟨r1, r2, r3⟩⟩ = false := by
          unfold sfRight
          dsimp only
          rw [g0, g1, g2]
          first | rfl | simp
        have HVV := Lib.hid hV
        clear hV
        go_wp2_with (first | (go_at_call 100; (with_reducible refine (rright_c _ _).mono ?_); rintro e w' ⟨rfl, r, rfl⟩) | (go_at_call 100; (with_reducible refine (rright_c ⟨_, _, _⟩ _).mono ?_); rintro e w' ⟨rfl, r, rfl⟩))
        go_returns
        exact ⟨by rw [all_no8 _ HF.out HVV.out]; rfl, (by repeat (first | exact More.refl _ | refine More.alloc ?_ _ | refine More.more ?_ _ | refine More.drew ?_ | refine More.drewN ?_ _))⟩
      · have hV : sfRight ⟨fs, fb, ⟨c1, c2, c3⟩, ⟨k1, k2, k3⟩, ⟨a1, a2, a3⟩, ⟨b1, b2, b3⟩, ⟨p1, p2, p3⟩, ⟨q1, q2, q3⟩, ⟨r1, r2, r3⟩⟩ = false := by
          unfold sfRight
          dsimp only
          rw [g0, g1, g2, g3]
          first | rfl | simp
        have HVV := Lib.hid hV
        clear hV
        go_wp2_with (first | (go_at_call 100; (with_reducible refine (rright_c _ _).mono ?_); rintro e w' ⟨rfl, r, rfl⟩) | (go_at_call 100; (with_reducible refine (rright_c ⟨_, _, _⟩ _).mono ?_); rintro e w' ⟨rfl, r, rfl⟩))
        go_returns
        exact ⟨by rw [all_no8 _ HF.out HVV.out]; rfl, (by repeat (first | exact More.refl _ | refine More.alloc ?_ _ | refine More.more ?_ _ | refine More.drew ?_ | refine More.drewN ?_ _))⟩
      · have hV : sfRight ⟨fs, fb, ⟨c1, c2, c3⟩, ⟨k1, k2, k3⟩, ⟨a1, a2, a3⟩, ⟨b1, b2, b3⟩, ⟨p1, p2, p3⟩, ⟨q1, q2, q3⟩, ⟨r1, r2, r3⟩⟩ = false := by
          unfold sfRight
          dsimp only
          rw [g0, g1, g2, g3, g4]
          first | rfl | simp
        have HVV := Lib.hid hV
        clear hV
        go_wp2_with (first | (go_at_call 100; (with_reducible refine (rright_c _ _).mono ?_); rintro e w' ⟨rfl, r, rfl⟩) | (go_at_call 100; (with_reducible refine (rright_c ⟨_, _, _⟩ _).mono ?_); rintro e w' ⟨rfl, r, rfl⟩))
        go_returns
        exact ⟨by rw [all_no8 _ HF.out HVV.out]; rfl, (by repeat (first | exact More.refl _ | refine More.alloc ?_ _ | refine More.more ?_ _ | refine More.drew ?_ | refine More.drewN ?_ _))⟩
      · have hV : sfRight ⟨fs, fb, ⟨c1, c2, c3⟩, ⟨k1, k2, k3⟩, ⟨a1, a2, a3⟩, ⟨b1, b2, b3⟩, ⟨p1, p2, p3⟩, ⟨q1, q2, q3⟩, ⟨r1, r2, r3⟩⟩ = false := by
          unfold sfRight
          dsimp only
          rw [g0, g1, g2, g3, g4, g5]
          first | rfl | simp
        have HVV := Lib.hid hV
        clear hV
        go_wp2_with (first | (go_at_call 100; (with_reducible refine (rright_c _ _).mono ?_); rintro e w' ⟨rfl, r, rfl⟩) | (go_at_call 100; (with_reducible refine (rright_c ⟨_, _, _⟩ _).mono ?_); rintro e w' ⟨rfl, r, rfl⟩))
        go_returns
        exact ⟨by rw [all_no8 _ HF.out HVV.out]; rfl, (by repeat (first | exact More.refl _ | refine More.alloc ?_ _ | refine More.more ?_ _ | refine More.drew ?_ | refine More.drewN ?_ _))⟩
      · have hV : sfRight ⟨fs, fb, ⟨c1, c2, c3⟩, ⟨k1, k2, k3⟩, ⟨a1, a2, a3⟩, ⟨b1, b2, b3⟩, ⟨p1, p2, p3⟩, ⟨q1, q2, q3⟩, ⟨r1, r2, r3⟩⟩ = false := by
          unfold sfRight
          dsimp only
          rw [g0, g1, g2, g3, g4, g5, g6]
          first | rfl | simp
        have HVV := Lib.hid hV
        clear hV
        go_wp2_with (first | (go_at_call 100; (with_reducible refine (rright_c _ _).mono ?_); rintro e w' ⟨rfl, r, rfl⟩) | (go_at_call 100; (with_reducible refine (rright_c ⟨_, _, _⟩ _).mono ?_); rintro e w' ⟨rfl, r, rfl⟩))
        go_returns
        exact ⟨by rw [all_no8 _ HF.out HVV.out]; rfl, (by repeat (first | exact More.refl _ | refine More.alloc ?_ _ | refine More.more ?_ _ | refine More.drew ?_ | refine More.drewN ?_ _))⟩
      · have hV : sfRight ⟨fs, fb, ⟨c1, c2, c3⟩, ⟨k1, k2, k3⟩, ⟨a1, a2, a3⟩, ⟨b1, b2, b3⟩, ⟨p1, p2, p3⟩, ⟨q1, q2, q3⟩, ⟨r1, r2, r3⟩⟩ = true := by
          unfold sfRight
          dsimp only
          rw [g0, g1, g2, g3, g4, g5, g6]
          first | rfl | simp
        have HVV := Lib.hid hV
        clear hV
        go_wp2_with (first | (go_at_call 100; (with_reducible refine (rright_c _ _).mono ?_); rintro e w' ⟨rfl, r, rfl⟩) | (go_at_call 100; (with_reducible refine (rright_c ⟨_, _, _⟩ _).mono ?_); rintro e w' ⟨rfl, r, rfl⟩))
        go_roundw
        case rel => exact ⟨k + 1, by omega, rfl, all_up8 HA.out HF.out HVV.out, (by repeat (first | exact More.refl _ | refine More.alloc ?_ _ | refine More.more ?_ _ | refine More.drew ?_ | refine More.drewN ?_ _))⟩
        case measure => simp [intOf] <;> omega
    · obtain rfl : k = l.length := by omega
      have hr : rowsRight l ⟨o1, o2, o3⟩ = ivRight ⟨o1, o2, o3⟩ := by
        have h := HA.out
        rw [List.take_length] at h
        unfold rowsRight
        rw [h]
        rfl
      have HR := Lib.hid hr
      clear hr
      go_wp2_with (first | (go_at_call 100; (with_reducible refine (rright_c _ _).mono ?_); rintro e w' ⟨rfl, r, rfl⟩) | (go_at_call 100; (with_reducible refine (rright_c ⟨_, _, _⟩ _).mono ?_); rintro e w' ⟨rfl, r, rfl⟩))
      go_returns
      exact ⟨by rw [HR.out]; rfl, (by repeat (first | exact More.refl _ | refine More.alloc ?_ _ | refine More.more ?_ _ | refine More.drew ?_ | refine More.drewN ?_ _))⟩
end Go.Proofs.YtblbfommjfekeaaGreatDoor

