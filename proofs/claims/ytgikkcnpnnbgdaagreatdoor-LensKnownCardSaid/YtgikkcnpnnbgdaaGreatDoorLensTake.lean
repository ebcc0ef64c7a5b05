/-
  A lens's reader in memory: the calls that keep an error, that take what is next.
-/
import Derived.Test.YtgikkcnpnnbgdaaGreatDoorLensRdMath
import Derived.Test.YtgikkcnpnnbgdaaGreatDoorGe
import Derived.Test.YtgikkcnpnnbgdaaGreatDoorAsk2
namespace Go.Proofs.YtgikkcnpnnbgdaaGreatDoor
set_option linter.unusedVariables false
open Go.ChangeShapes Go.WideShapes Go.ChangeAt Go.RowKit

abbrev rdO (v : Value) (σ : RdS) : Obj := .cells #[v, .complex .f64 (nw σ.line) (nw σ.col), .int .i64 σ.err] 60
/-- The reader stands behind a world; its tokens lie in that world. -/
abbrev RdMoved (X : World) (v : Value) (σ σ' : RdS) (W : World) (W' : Value → World) (R : Rest) : Prop := ∀ v', Moved (X.alloc (rdO v σ)) (X.alloc (rdO v' σ')) W (W' v') R
theorem RdMoved.form {X : World} {v : Value} {σ σ' : RdS} {W : World} {W' : Value → World} {R : Rest} (h : RdMoved X v σ σ' W W' R) : W = more (X.alloc (rdO v σ)) R ∧ ∀ v', W' v' = more (X.alloc (rdO v' σ')) R := ⟨(h v).1, fun v' => (h v').2⟩
@[reducible] def tokV (t : Tk) : Value := .agg #[.int .i64 t.kind, .string (bsOf t.text), .complex .f64 (nw t.line) (nw t.col)]
theorem natB (a b : Nat) : ((a : Int) != (b : Int)) = !decide (a = b) := by
  rw [Bool.eq_iff_iff]
  simp only [bne_iff_ne, ne_eq, Bool.not_eq_true', decide_eq_false_iff_not]
  omega
theorem tok_zero : Ending.returned (Value.agg #[.int .i64 0, .string ⟨#[]⟩, .complex .f64 0 0]) = Ending.returned (tokV Z0T) := by
  show _ = Ending.returned (Value.agg #[.int .i64 0, .string ⟨#[]⟩, .complex .f64 (nw 0) (nw 0)])
  rw [nw_zero]
theorem idx_at {l : List (List UInt8)} {k : Nat} {s t : List UInt8} (hs : l[k]? = some s) (he : s = t) (hno : ∀ j, j < k → ∀ s, l[j]? = some s → s ≠ t) : l.idxOf t = k := by
  subst he
  obtain ⟨hk, e⟩ := List.getElem?_eq_some_iff.1 hs
  induction l generalizing k with
  | nil => simp at hk
  | cons x r ih =>
    cases k with
    | zero =>
      simp at e
      subst e
      simp
    | succ k =>
      have hx : x ≠ s := hno 0 (by omega) x rfl
      have := ih (k := k) (by simpa using hs) (fun j hj y hy => hno (j + 1) (by omega) y (by simpa using hy)) (by simpa using hk) (by simpa using e)
      rw [List.idxOf_cons, this]
      have hb : (x == s) = false := by simpa using hx
      rw [hb]
      rfl
theorem strB (a b : List UInt8) (h : ¬ a = b) : (a == b) = false := by simpa using h

set_option maxHeartbeats 4000000 in
theorem fail_m (e L C : Nat) (X : World) (v : Value) (σ : RdS) {W W' : World} {R : Rest} (hm : Moved (X.alloc (rdO v σ)) (X.alloc (rdO v (failS e L C σ))) W W' R) :
    Calls Tryz.prog 49 #[.pointer (some ⟨X.heap.size, 0, none⟩), .int .i64 e, .complex .f64 (nw L) (nw C)] W fun en w' => en = .returned (.tuple #[]) ∧ w' = W' := by
  obtain ⟨rfl, rfl⟩ := hm
  obtain ⟨ts, l, c, er⟩ := σ
  by_cases h : er = 0
  · subst h
    have e1 : failS e L C ⟨ts, l, c, 0⟩ = ⟨ts, L, C, e⟩ := by unfold failS; rw [if_pos rfl]
    rw [e1]
    have q : ((0 : Int) == 0) = true := rfl
    go_enter Tryz.func49, Tryz.ntmps49
    go_wp2_with fail
    go_returns
    exact ⟨rfl, rfl⟩
  · have e1 : failS e L C ⟨ts, l, c, er⟩ = ⟨ts, l, c, er⟩ := by unfold failS; rw [if_neg h]
    rw [e1]
    have q : ((er : Int) == 0) = false := by simp; omega
    go_enter Tryz.func49, Tryz.ntmps49
    go_wp2_with fail
    go_returns
    exact ⟨rfl, rfl⟩

set_option maxHeartbeats 4000000 in
theorem take_m (k : Nat) (X : World) (v : Value) (σ : RdS) {W : World} {W' : Value → World} {R : Rest} (hm : RdMoved X v σ (takeS k σ).2 W W' R) (hf : FineS σ) (hv : GRow tk3 3 X v σ.ts) :
    Calls Tryz.prog 44 #[.pointer (some ⟨X.heap.size, 0, none⟩), .int .i64 k] W fun en w' => en = .returned (tokV (takeS k σ).1) ∧ ∃ v', More (W' v') w' ∧ GRow tk3 3 X v' (takeS k σ).2.ts := by
  obtain ⟨rfl, hW'⟩ := hm.form
  clear hm
  obtain ⟨ts, l, c, er⟩ := σ
  obtain ⟨h1, h2⟩ := hf
  cases ts with
  | nil => exact absurd rfl h1
  | cons t r =>
    dsimp only at hv hW'
    obtain ⟨ao, cp, rfl, h0⟩ := grow_form (fun _ => by rw [tk3_len]; decide) hv
    have hcap := (grow_cap hv).2
    obtain ⟨b, o, rfl, hb, hd⟩ := h0 (by simp)
    have c0 := hd 0 _ rfl 0 _ rfl
    have c1 := hd 0 _ rfl 1 _ rfl
    have c2 := hd 0 _ rfl 2 _ rfl
    simp only [Nat.zero_mul, Nat.add_zero, Nat.zero_add] at c0 c1 c2
    obtain ⟨kd, tx, L, C⟩ := t
    dsimp only at c0 c1 c2
    have hn := natB kd k
    have HW := Lib.hid hW'
    have HV := Lib.hid hv
    clear hW' hd h0
    simp only [List.length_cons] at hcap
    by_cases hk : kd = k
    · subst hk
      have hT : takeS kd ⟨⟨kd, tx, L, C⟩ :: r, l, c, er⟩ = (⟨kd, tx, L, C⟩, ⟨r, l, c, er⟩) := by unfold takeS; dsimp only; rw [if_pos rfl]
      rw [decide_eq_true rfl] at hn
      have HT := Lib.hid hT
      clear hT
      have hdr : ∃ a9, (if cp = 1 then (some ⟨b, o, none⟩ : Option Addr) else some ⟨b, o + 3, none⟩) = a9 ∧ GRow tk3 3 X (.slice a9 r.length (cp - 1)) r := by
        by_cases hc9 : cp = 1
        · refine ⟨_, rfl, ?_⟩
          have hr0 : r = [] := List.length_eq_zero_iff.1 (by omega)
          rw [if_pos hc9, hr0]
          exact .inr ⟨b, o, cp - 1, rfl, by simp, fun k a h => by simp at h⟩
        · refine ⟨_, rfl, ?_⟩
          rw [if_neg hc9]
          have := HV.out.drop (k := 1) (c' := cp - 1) (by simp) (by simp; omega)
          simpa using this
      obtain ⟨a9, ha9, hg9⟩ := hdr
      have HG := Lib.hid hg9
      clear hg9 hv
      go_enter Tryz.func44, Tryz.ntmps44
      go_wp2_with fail
      go_returns
      rw [HT.out]
      refine ⟨rfl, .slice a9 r.length (cp - 1), ?_, HG.out⟩
      rw [HW.out, HT.out]
      exact (by repeat (first | exact More.refl _ | refine More.alloc ?_ _ | refine More.more ?_ _ | refine More.drew ?_ | refine More.drewN ?_ _))
    · have hT : takeS k ⟨⟨kd, tx, L, C⟩ :: r, l, c, er⟩ = (Z0T, failS 2 L C ⟨⟨kd, tx, L, C⟩ :: r, l, c, er⟩) := by unfold takeS; dsimp only; rw [if_neg hk]
      rw [decide_eq_false hk] at hn
      have HT := Lib.hid hT
      clear hT
      go_enter Tryz.func44, Tryz.ntmps44
      go_wp2_with fail
      go_at_call 49
      refine Calls.mono (fail_m 2 L C X (.slice (some ⟨b, o, none⟩) (⟨kd, tx, L, C⟩ :: r : List Tk).length cp) ⟨⟨kd, tx, L, C⟩ :: r, l, c, er⟩ (by (repeat (first | exact Moved.self | apply Moved.alloc | apply Moved.more | apply Moved.drew)))) ?_
      rintro en w' ⟨rfl, rfl⟩
      have hts := ts_fail 2 L C ⟨⟨kd, tx, L, C⟩ :: r, l, c, er⟩
      have HS := Lib.hid hts
      clear hts
      go_wp2_with fail
      go_returns
      rw [HT.out]
      refine ⟨tok_zero, .slice (some ⟨b, o, none⟩) (⟨kd, tx, L, C⟩ :: r : List Tk).length cp, ?_, (show GRow tk3 3 X _ (failS 2 L C ⟨⟨kd, tx, L, C⟩ :: r, l, c, er⟩).ts by rw [HS.out]; exact HV.out)⟩
      rw [HW.out, HT.out]
      exact (by repeat (first | exact More.refl _ | refine More.alloc ?_ _ | refine More.more ?_ _ | refine More.drew ?_ | refine More.drewN ?_ _))

/-! ### Words in a slice -/
def str1 (s : List UInt8) : List Value := [.string (bsOf s)]
abbrev Strs (w : World) (v : Value) (l : List (List UInt8)) : Prop := GRow str1 1 w v l
theorem str1_len (s : List UInt8) : (str1 s).length = 1 := rfl
theorem str1_pos (s : List UInt8) : 0 < (str1 s).length := by rw [str1_len]; decide

set_option maxHeartbeats 4000000 in
theorem indexS_c (v : Value) (l : List (List UInt8)) (t : List UInt8) (W : World) (hv : Strs W v l) (hl : l.length ≤ 1000000) :
    Calls Tryz.prog 87 #[v, .string (bsOf t)] W fun e w' => e = .returned (.int .i64 (if t ∈ l then (l.idxOf t : Int) else -1)) ∧ W = w' := by
  obtain ⟨V, hV⟩ : ∃ V : Int, (if t ∈ l then (l.idxOf t : Int) else -1) = V := ⟨_, rfl⟩
  rw [hV]
  have HV := Lib.hid hV
  clear hV
  obtain ⟨ao, c, rfl, h0⟩ := grow_form str1_pos hv
  go_enter Tryz.func87, Tryz.ntmps87
  go_wp2_with fail
  go_loop [8] (fun x => ∃ k : Nat, k ≤ l.length ∧ x = .int .i64 k ∧ ∀ j, j < k → ∀ s, l[j]? = some s → s ≠ t) (fun x => l.length - (intOf x).toNat)
  case atStart => exact ⟨0, by omega, rfl, fun j h => by omega⟩
  case round =>
    obtain ⟨k, hk, rfl, hno⟩ := hrel
    have HN := Lib.hid hno
    clear hno hv
    by_cases hkl : k < l.length
    · obtain ⟨b, o, rfl, hb, hd⟩ := h0 (by omega)
      obtain ⟨s, hs⟩ : ∃ s, l[k]? = some s := ⟨l[k], List.getElem?_eq_getElem hkl⟩
      have c0 := hd k s hs 0 _ rfl
      simp only [Nat.mul_one, Nat.add_zero] at c0
      have HS := Lib.hid hs
      clear hs hd h0
      by_cases he : s = t
      · have hq : (t == s) = true := by rw [he]; simp
        have HE := Lib.hid he
        clear he
        go_wp2_with fail
        go_returns
        have e1 : t ∈ l := HE.out ▸ List.mem_of_getElem? HS.out
        have e2 : l.idxOf t = k := idx_at HS.out HE.out HN.out
        rw [← HV.out, if_pos e1, e2]
        exact ⟨rfl, rfl⟩
      · have hq : (t == s) = false := by simpa using fun h => he h.symm
        have HE := Lib.hid he
        clear he
        go_wp2_with fail
        go_round
        case rel => exact ⟨k + 1, by omega, rfl, fun j hj s' hs' => by
          rcases Nat.lt_or_ge j k with h1 | h1
          · exact HN.out j h1 s' hs'
          · obtain rfl : j = k := by omega
            rw [HS.out] at hs'
            cases hs'
            exact HE.out⟩
        case measure => simp [intOf] <;> omega
    · obtain rfl : k = l.length := by omega
      clear h0
      go_wp2_with fail
      go_returns
      rw [← HV.out, if_neg (fun hm => by
        obtain ⟨j, hj⟩ := List.mem_iff_getElem?.1 hm
        exact HN.out j (List.getElem?_eq_some_iff.1 hj).1 t hj rfl)]
      exact ⟨rfl, rfl⟩

set_option maxHeartbeats 4000000 in
theorem contains_c (v : Value) (l : List (List UInt8)) (t : List UInt8) (W : World) (hv : Strs W v l) (hl : l.length ≤ 1000000) :
    Calls Tryz.prog 65 #[v, .string (bsOf t)] W fun e w' => e = .returned (.bool (decide (t ∈ l))) ∧ W = w' := by
  obtain ⟨ao, c, rfl, h0⟩ := grow_form str1_pos hv
  have h1 := indexS_c _ l t W hv hl
  clear h0
  by_cases hm : t ∈ l
  · rw [if_pos hm] at h1
    rw [decide_eq_true hm]
    have H1 := Lib.hid h1
    clear h1 hm hv
    go_enter Tryz.func65, Tryz.ntmps65
    go_wp2_with (first | (go_at_call 87; refine H1.out.mono ?_; rintro e w' ⟨rfl, rfl⟩))
    go_returns
    exact ⟨by simp, rfl⟩
  · rw [if_neg hm] at h1
    rw [decide_eq_false hm]
    have H1 := Lib.hid h1
    clear h1 hm hv
    go_enter Tryz.func65, Tryz.ntmps65
    go_wp2_with (first | (go_at_call 87; refine H1.out.mono ?_; rintro e w' ⟨rfl, rfl⟩))
    go_returns
    exact ⟨rfl, rfl⟩

end Go.Proofs.YtgikkcnpnnbgdaaGreatDoor

