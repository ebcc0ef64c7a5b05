/-
  Lacks a system a number? Its last place; two of the same parts.
-/
import Derived.Test.YtekhhekkepijoaaGreatDoorSys2
namespace Go.Proofs.YtekhhekkepijoaaGreatDoor
set_option linter.unusedVariables false
open Go.ChangeShapes Go.WideShapes Go.ChangeAt Go.RowKit

theorem can_eq' {a : Iv} (h : Can a) : ivEq a ivNone = !ivRight a := by
  rw [← can_eq h]
  unfold ivEq
  rw [Bool.eq_iff_iff]
  simp only [Bool.and_eq_true, beq_iff_eq]
  constructor <;> (rintro ⟨h1, h2, h3⟩; exact ⟨h1.symm, h2.symm, h3.symm⟩)
def lastP (l : List Sf) : Iv := match l.getLast? with | some s => s.place | none => ivNone
theorem all_up {l : List Sf} {k : Nat} {s : Sf} (h : (l.take k).all sfRight = true) (hk : l[k]? = some s) (hs : sfRight s = true) : (l.take (k + 1)).all sfRight = true := by
  rw [List.take_add_one, hk, List.all_append, h]
  simp [hs]
theorem all_no {l : List Sf} {k : Nat} {s : Sf} (o : Iv) (hk : l[k]? = some s) (hs : sfRight s = false) : rowsRight l o = false := by
  unfold rowsRight
  have : l.all sfRight = false := by
    rw [List.all_eq_false]
    exact ⟨s, List.mem_of_getElem? hk, by rw [hs]; simp⟩
  rw [this]
  rfl

set_option maxHeartbeats 16000000 in
set_option maxRecDepth 100000 in
theorem lacks_c (v : Value) (l : List Sf) (o : Iv) (W : World) (hv : Sfs W v l) (hl : l.length ≤ 1000000) (hc : ∀ s ∈ l, CanS s) (ho : Can o) :
    Calls Tryz.prog 30 #[.agg #[v, .int .i64 o.lo, .int .i64 o.hi, .bool o.no]] W fun e w' => e = .returned (.bool (!rowsRight l o)) ∧ More W w' := by
  obtain ⟨ao, c, rfl, -⟩ := grow_form sfs_pos hv
  obtain ⟨o1, o2, o3⟩ := o
  have E0 : ∀ w, (binOp .eql 36 (.agg #[.int .i64 o1, .int .i64 o2, .bool o3]) (.agg #[.int .i64 0, .int .i64 0, .bool true])).run Tryz.prog w = .ok (.bool (!ivRight ⟨o1, o2, o3⟩)) w := fun w => by
    have h := eql_iv ⟨o1, o2, o3⟩ ivNone w
    rw [can_eq' ho] at h
    exact h
  have hn : ivNone = ⟨0, 0, true⟩ := rfl
  have HV := Lib.hid hv
  have HC := Lib.hid hc
  clear hv hc ho
  dsimp only
  go_enter Tryz.func30, Tryz.ntmps30
  go_wp2_with fail
  go_loopw [9] (fun i wr => ∃ k : Nat, k ≤ l.length ∧ i = .int .i64 k ∧ (l.take k).all sfRight = true ∧ More (W.alloc (.cells #[.slice ao l.length c, .int .i64 o1, .int .i64 o2, .bool o3] 38)) wr) (fun i _ => l.length - (intOf i).toNat)
  case atStart => exact ⟨0, by omega, rfl, rfl, (by repeat (first | exact More.refl _ | refine More.alloc ?_ _ | refine More.more ?_ _ | refine More.drew ?_ | refine More.drewN ?_ _))⟩
  case round =>
    obtain ⟨k, hk, rfl, ha, s, rfl⟩ := hrel
    have HA := Lib.hid ha
    clear ha
    by_cases hkl : k < l.length
    · obtain ⟨f, hf⟩ : ∃ f, l[k]? = some f := ⟨l[k], List.getElem?_eq_getElem hkl⟩
      obtain ⟨b, off, rfl, hb, hL, -⟩ := sfs_at (w := W.alloc (.cells #[.slice ao l.length c, .int .i64 o1, .int .i64 o2, .bool o3] 38)) (HV.out.up (by repeat (first | exact More.refl _ | refine More.alloc ?_ _ | refine More.more ?_ _ | refine More.drew ?_ | refine More.drewN ?_ _))) hf
      have hnum := nums_right (HC.out f (List.mem_of_getElem? hf))
      obtain ⟨V, hV⟩ : ∃ V, sfRight f = V := ⟨_, rfl⟩
      rw [hV] at hnum
      have HF := Lib.hid hf
      have HSV := Lib.hid hV
      have HNUM := Lib.hid hnum
      clear hf hV hnum
      obtain ⟨fs, fb, ⟨c1, c2, c3⟩, ⟨k1, k2, k3⟩, ⟨a1, a2, a3⟩, ⟨b1, b2, b3⟩, ⟨p1, p2, p3⟩, ⟨q1, q2, q3⟩, ⟨r1, r2, r3⟩⟩ := f
      go_wp2_with (first | (go_at_call 10; (with_reducible refine (none_c _).mono ?_); rintro e w' ⟨rfl, r, rfl⟩) | ((with_reducible show Code.wp _ (Code.region 8 _ true) _ _ _); (with_reducible refine wp_more_quick_m (id := 8) ?_ ?_ ?_); kernel_rfl; kernel_rfl; (try simp only [List.take_succ_cons, List.take_zero, List.drop_succ_cons, List.drop_zero]); (repeat (any_goals (first | go_big_quiet_step ((first | (go_at_call 10; (with_reducible apply quiet_call); with_reducible exact none_c _))) | quiet_step ((first | (go_at_call 10; (with_reducible apply quiet_call); with_reducible exact none_c _)))))); (with_reducible refine wpQuiet_nil ?_); intro r) | ((with_reducible show Code.wp _ (Code.region 8 _ true) _ _ _); (with_reducible refine wp_more_quick (id := 8) ?_ ?_ ?_); kernel_rfl; kernel_rfl; (try simp only [List.take_succ_cons, List.take_zero, List.drop_succ_cons, List.drop_zero]); (repeat (any_goals (first | go_big_quiet_step ((first | (go_at_call 10; (with_reducible apply quiet_call); with_reducible exact none_c _))) | quiet_step ((first | (go_at_call 10; (with_reducible apply quiet_call); with_reducible exact none_c _)))))); (with_reducible refine wpQuiet_nil ?_); intro r))
      go_at_call 66
      refine Calls.mono (contI_c _ [⟨c1, c2, c3⟩, ⟨k1, k2, k3⟩, ⟨a1, a2, a3⟩, ⟨b1, b2, b3⟩, ⟨p1, p2, p3⟩, ⟨q1, q2, q3⟩, ⟨r1, r2, r3⟩] ivNone _ (by repeat (first | with_reducible apply Row.more | with_reducible apply Row.drew | exact Row.lit rfl (by simp [Nat.add_assoc]) rfl)) (by simp)) ?_
      rintro e w' ⟨rfl, r9, rfl⟩
      have hany : ([⟨c1, c2, c3⟩, ⟨k1, k2, k3⟩, ⟨a1, a2, a3⟩, ⟨b1, b2, b3⟩, ⟨p1, p2, p3⟩, ⟨q1, q2, q3⟩, ⟨r1, r2, r3⟩] : List Iv).any (fun y => ivEq ivNone y) = !V := HNUM.out
      rw [hany]
      clear hany
      cases V with
      | true =>
        go_wp2_with fail
        go_roundw
        case rel => exact ⟨k + 1, by omega, rfl, all_up HA.out HF.out HSV.out, (by repeat (first | exact More.refl _ | refine More.alloc ?_ _ | refine More.more ?_ _ | refine More.drew ?_ | refine More.drewN ?_ _))⟩
        case measure => simp [intOf] <;> omega
      | false =>
        go_wp2_with fail
        go_returns
        exact ⟨by rw [all_no _ HF.out HSV.out]; rfl, (by repeat (first | exact More.refl _ | refine More.alloc ?_ _ | refine More.more ?_ _ | refine More.drew ?_ | refine More.drewN ?_ _))⟩
    · obtain rfl : k = l.length := by omega
      have hr : rowsRight l ⟨o1, o2, o3⟩ = ivRight ⟨o1, o2, o3⟩ := by
        have h := HA.out
        rw [List.take_length] at h
        unfold rowsRight
        rw [h]
        rfl
      have HR := Lib.hid hr
      clear hr
      go_wp2_with (first | (go_at_call 10; (with_reducible refine (none_c _).mono ?_); rintro e w' ⟨rfl, r, rfl⟩) | ((with_reducible show Code.wp _ (Code.region 8 _ true) _ _ _); (with_reducible refine wp_more_quick_m (id := 8) ?_ ?_ ?_); kernel_rfl; kernel_rfl; (try simp only [List.take_succ_cons, List.take_zero, List.drop_succ_cons, List.drop_zero]); (repeat (any_goals (first | go_big_quiet_step ((first | (go_at_call 10; (with_reducible apply quiet_call); with_reducible exact none_c _))) | quiet_step ((first | (go_at_call 10; (with_reducible apply quiet_call); with_reducible exact none_c _)))))); (with_reducible refine wpQuiet_nil ?_); intro r) | ((with_reducible show Code.wp _ (Code.region 8 _ true) _ _ _); (with_reducible refine wp_more_quick (id := 8) ?_ ?_ ?_); kernel_rfl; kernel_rfl; (try simp only [List.take_succ_cons, List.take_zero, List.drop_succ_cons, List.drop_zero]); (repeat (any_goals (first | go_big_quiet_step ((first | (go_at_call 10; (with_reducible apply quiet_call); with_reducible exact none_c _))) | quiet_step ((first | (go_at_call 10; (with_reducible apply quiet_call); with_reducible exact none_c _)))))); (with_reducible refine wpQuiet_nil ?_); intro r))
      go_returns
      exact ⟨by rw [HR.out]; rfl, (by repeat (first | exact More.refl _ | refine More.alloc ?_ _ | refine More.more ?_ _ | refine More.drew ?_ | refine More.drewN ?_ _))⟩

set_option maxHeartbeats 8000000 in
theorem slast_c (v : Value) (l : List Sf) (o : Iv) (W : World) (hv : Sfs W v l) (hl : l.length ≤ 1000000) :
    Calls Tryz.prog 14 #[.agg #[v, .int .i64 o.lo, .int .i64 o.hi, .bool o.no]] W fun e w' => e = .returned (ivV (lastP l)) ∧ More W w' := by
  obtain ⟨ao, c, rfl, hc⟩ := grow_form sfs_pos hv
  obtain ⟨o1, o2, o3⟩ := o
  have hn : ivNone = ⟨0, 0, true⟩ := rfl
  dsimp only
  by_cases h0 : l.length = 0
  · obtain rfl := List.eq_nil_of_length_eq_zero h0
    clear hc hv
    go_enter Tryz.func14, Tryz.ntmps14
    go_wp2_with (first | (go_at_call 10; (with_reducible refine (none_c _).mono ?_); rintro e w' ⟨rfl, r, rfl⟩))
    go_returns
    exact ⟨rfl, (by repeat (first | exact More.refl _ | refine More.alloc ?_ _ | refine More.more ?_ _ | refine More.drew ?_ | refine More.drewN ?_ _))⟩
  · obtain ⟨b, o, rfl, hb, hd⟩ := hc (by omega)
    have hlt : l.length - 1 < l.length := by omega
    obtain ⟨f, hf⟩ : ∃ f, l[l.length - 1]? = some f := ⟨l[l.length - 1]'hlt, List.getElem?_eq_getElem hlt⟩
    clear hlt
    have f1 := hd _ f hf 14 _ rfl
    have f2 := hd _ f hf 15 _ rfl
    have f3 := hd _ f hf 16 _ rfl
    have hlast : lastP l = f.place := by
      unfold lastP
      rw [List.getLast?_eq_getElem?, hf]
    rw [hlast]
    obtain ⟨⟨p1, p2, p3⟩, hp⟩ : ∃ p, f.place = p := ⟨_, rfl⟩
    rw [hp] at f1 f2 f3 ⊢
    dsimp only at f1 f2 f3
    have hq : (((l.length : Nat) : Int) == 0) = false := beq_false_of_ne (by omega)
    have hcast : (((l.length : Nat) : Int) - 1) = ((l.length - 1 : Nat) : Int) := by omega
    have hk : l.length - 1 < l.length := by omega
    obtain ⟨K, hK⟩ : ∃ K, l.length - 1 = K := ⟨_, rfl⟩
    rw [hK] at f1 f2 f3 hcast hk
    have HK := Lib.hid hK
    clear hK hd hc hv hf hlast hp
    go_enter Tryz.func14, Tryz.ntmps14
    go_wp2_with (first | (go_at_call 10; (with_reducible refine (none_c _).mono ?_); rintro e w' ⟨rfl, r, rfl⟩))
    go_returns
    exact ⟨rfl, (by repeat (first | exact More.refl _ | refine More.alloc ?_ _ | refine More.more ?_ _ | refine More.drew ?_ | refine More.drewN ?_ _))⟩

set_option maxHeartbeats 4000000 in
set_option maxRecDepth 100000 in
theorem sEqual_c (l : List Sf) (u v : Value) (W : World) (hu : Sfs W u l) (hv : Sfs W v l) (hl : l.length ≤ 1000000) :
    Calls Tryz.prog 39 #[u, v] W fun e w' => e = .returned (.bool true) ∧ More W w' := by
  obtain ⟨ao, c, rfl, -⟩ := grow_form sfs_pos hu
  obtain ⟨bo, d, rfl, -⟩ := grow_form sfs_pos hv
  have HU := Lib.hid hu
  have HV := Lib.hid hv
  clear hu hv
  go_enter Tryz.func39, Tryz.ntmps39
  go_wp2_with fail
  go_loopw [13] (fun i wr => ∃ k : Nat, k ≤ l.length ∧ i = .int .i64 k ∧ More W wr) (fun i _ => l.length - (intOf i).toNat)
  case atStart => exact ⟨0, by omega, rfl, (by repeat (first | exact More.refl _ | refine More.alloc ?_ _ | refine More.more ?_ _ | refine More.drew ?_ | refine More.drewN ?_ _))⟩
  case round =>
    obtain ⟨k, hk, rfl, s, rfl⟩ := hrel
    by_cases hkl : k < l.length
    · obtain ⟨f, hf⟩ : ∃ f, l[k]? = some f := ⟨l[k], List.getElem?_eq_getElem hkl⟩
      obtain ⟨b, o, rfl, hb, hL, hL0⟩ := sfs_at HU.out hf
      obtain ⟨b', o', rfl, hb', hL', hL0'⟩ := sfs_at HV.out hf
      clear hf
      obtain ⟨fs, fb, ⟨c1, c2, c3⟩, ⟨k1, k2, k3⟩, ⟨a1, a2, a3⟩, ⟨b1, b2, b3⟩, ⟨p1, p2, p3⟩, ⟨q1, q2, q3⟩, ⟨r1, r2, r3⟩⟩ := f
      have hq := neql_sf ⟨fs, fb, ⟨c1, c2, c3⟩, ⟨k1, k2, k3⟩, ⟨a1, a2, a3⟩, ⟨b1, b2, b3⟩, ⟨p1, p2, p3⟩, ⟨q1, q2, q3⟩, ⟨r1, r2, r3⟩⟩
      have hlt : ((k : Nat) : Int) < ((l.length : Nat) : Int) := by omega
      go_wp2_with fail
      go_region
      all_goals go_wp2_with fail
      all_goals
        go_roundw
        case rel => exact ⟨k + 1, by omega, rfl, (by repeat (first | exact More.refl _ | refine More.alloc ?_ _ | refine More.more ?_ _ | refine More.drew ?_ | refine More.drewN ?_ _))⟩
        case measure => simp [intOf] <;> omega
    · obtain rfl : k = l.length := by omega
      go_wp2_with fail
      go_returns
      exact ⟨rfl, (by repeat (first | exact More.refl _ | refine More.alloc ?_ _ | refine More.more ?_ _ | refine More.drew ?_ | refine More.drewN ?_ _))⟩

set_option maxHeartbeats 8000000 in
theorem ssame_c (l : List Sf) (o : Iv) (u v : Value) (W : World) (hu : Sfs W u l) (hv : Sfs W v l) (hl : l.length ≤ 1000000) :
    Calls Tryz.prog 15 #[.agg #[u, .int .i64 o.lo, .int .i64 o.hi, .bool o.no], .agg #[v, .int .i64 o.lo, .int .i64 o.hi, .bool o.no]] W fun e w' => e = .returned (.bool true) ∧ More W w' := by
  obtain ⟨ao, c, rfl, -⟩ := grow_form sfs_pos hu
  obtain ⟨bo, d, rfl, -⟩ := grow_form sfs_pos hv
  obtain ⟨o1, o2, o3⟩ := o
  have E0 : ∀ w, (binOp .eql 36 (.agg #[.int .i64 o1, .int .i64 o2, .bool o3]) (.agg #[.int .i64 o1, .int .i64 o2, .bool o3])).run Tryz.prog w = .ok (.bool true) w := fun w => by
    have h := eql_iv ⟨o1, o2, o3⟩ ⟨o1, o2, o3⟩ w
    rw [ivEq_iff.2 rfl] at h
    exact h
  have HU := Lib.hid hu
  have HV := Lib.hid hv
  clear hu hv
  dsimp only
  go_enter Tryz.func15, Tryz.ntmps15
  go_wp2_with (first | (go_at_call 39; (refine Calls.mono (sEqual_c l _ _ _ (HU.out.up (by repeat (first | exact More.refl _ | refine More.alloc ?_ _ | refine More.more ?_ _ | refine More.drew ?_ | refine More.drewN ?_ _))) (HV.out.up (by repeat (first | exact More.refl _ | refine More.alloc ?_ _ | refine More.more ?_ _ | refine More.drew ?_ | refine More.drewN ?_ _))) hl) ?_); rintro e w' ⟨rfl, r, rfl⟩))
  go_returns
  exact ⟨rfl, (by repeat (first | exact More.refl _ | refine More.alloc ?_ _ | refine More.more ?_ _ | refine More.drew ?_ | refine More.drewN ?_ _))⟩
end Go.Proofs.YtekhhekkepijoaaGreatDoor

