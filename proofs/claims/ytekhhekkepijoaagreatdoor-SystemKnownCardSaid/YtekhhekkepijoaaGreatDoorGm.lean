/-
  A lens's reader in memory: the calls that keep an error, that take what is next.
  A lens's reader in memory: words, numbers, what stands behind a face's word.
  A lens's reader in memory: numbers within their bounds, names, terms.
-/
import Derived.Test.YtekhhekkepijoaaGreatDoorLensRdMath
import Derived.Test.YtekhhekkepijoaaGreatDoorGe
import Derived.Test.YtekhhekkepijoaaGreatDoorAsk2
import Derived.Test.YtekhhekkepijoaaGreatDoorGlass
import Derived.Test.YtekhhekkepijoaaGreatDoorGz5
import Derived.Test.YtekhhekkepijoaaGreatDoorGl

namespace Go.Proofs.YtekhhekkepijoaaGreatDoor
set_option linter.unusedVariables false
open Go.ChangeShapes Go.WideShapes Go.ChangeAt Go.RowKit

abbrev rdO (v : Value) (σ : RdS) : Obj := .cells #[v, .complex .f64 (nw σ.line) (nw σ.col), .int .i64 σ.err] 66
/-- The reader stands behind a world; its tokens lie in that world. -/
abbrev RdMoved (X : World) (v : Value) (σ σ' : RdS) (W : World) (W' : Value → World) (R : Rest) : Prop := ∀ v', Moved (X.alloc (rdO v σ)) (X.alloc (rdO v' σ')) W (W' v') R
theorem RdMoved.form {X : World} {v : Value} {σ σ' : RdS} {W : World} {W' : Value → World} {R : Rest} (h : RdMoved X v σ σ' W W' R) : W = more (X.alloc (rdO v σ)) R ∧ ∀ v', W' v' = more (X.alloc (rdO v' σ')) R := ⟨(h v).1, fun v' => (h v').2⟩
@[reducible] def tokV (t : Tk) : Value := .agg #[.int .i64 t.kind, .string (bsOf t.text), .complex .f64 (nw t.line) (nw t.col)]
theorem natB (a b : Nat) : ((a : Int) != (b : Int)) = !decide (a = b) := by
  rw [Bool.eq_iff_iff]
  simp only [bne_iff_ne, ne_eq, Bool.not_eq_true', decide_eq_false_iff_not]
  omega
theorem tok_zero : Ending.returned (Value.agg #[.int .i64 0, .string ⟨#[]⟩, .complex .f64 0 0]) = Ending.returned (tokV Z0T) := by
  show _ = Ending.returned (Value.agg #[.int .i64 0, .string ⟨#[]⟩, .complex .f64 (nw 0) (nw 0)])
  rw [nw_zero]
theorem idx_at {l : List (List UInt8)} {k : Nat} {s t : List UInt8} (hs : l[k]? = some s) (he : s = t) (hno : ∀ j, j < k → ∀ s, l[j]? = some s → s ≠ t) : l.idxOf t = k := by
  subst he
  obtain ⟨hk, e⟩ := List.getElem?_eq_some_iff.1 hs
  induction l generalizing k with
  | nil => simp at hk
  | cons x r ih =>
    cases k with
    | zero =>
      simp at e
      subst e
      simp
    | succ k =>
      have hx : x ≠ s := hno 0 (by omega) x rfl
      have := ih (k := k) (by simpa using hs) (fun j hj y hy => hno (j + 1) (by omega) y (by simpa using hy)) (by simpa using hk) (by simpa using e)
      rw [List.idxOf_cons, this]
      have hb : (x == s) = false := by simpa using hx
      rw [hb]
      rfl
set_option maxHeartbeats 4000000 in
theorem fail_m (e L C : Nat) (X : World) (v : Value) (σ : RdS) {W W' : World} {R : Rest} (hm : Moved (X.alloc (rdO v σ)) (X.alloc (rdO v (failS e L C σ))) W W' R) :
    Calls Tryz.prog 58 #[.pointer (some ⟨X.heap.size, 0, none⟩), .int .i64 e, .complex .f64 (nw L) (nw C)] W fun en w' => en = .returned (.tuple #[]) ∧ w' = W' := by
  obtain ⟨rfl, rfl⟩ := hm
  obtain ⟨ts, l, c, er⟩ := σ
  by_cases h : er = 0
  · subst h
    have e1 : failS e L C ⟨ts, l, c, 0⟩ = ⟨ts, L, C, e⟩ := by unfold failS; rw [if_pos rfl]
    rw [e1]
    have q : ((0 : Int) == 0) = true := rfl
    go_enter Tryz.func58, Tryz.ntmps58
    go_wp2_with fail
    go_returns
    exact ⟨rfl, rfl⟩
  · have e1 : failS e L C ⟨ts, l, c, er⟩ = ⟨ts, l, c, er⟩ := by unfold failS; rw [if_neg h]
    rw [e1]
    have q : ((er : Int) == 0) = false := by simp; omega
    go_enter Tryz.func58, Tryz.ntmps58
    go_wp2_with fail
    go_returns
    exact ⟨rfl, rfl⟩

set_option maxHeartbeats 4000000 in
theorem take_m (k : Nat) (X : World) (v : Value) (σ : RdS) {W : World} {W' : Value → World} {R : Rest} (hm : RdMoved X v σ (takeS k σ).2 W W' R) (hf : FineS σ) (hv : GRow tk3 3 X v σ.ts) :
    Calls Tryz.prog 53 #[.pointer (some ⟨X.heap.size, 0, none⟩), .int .i64 k] W fun en w' => en = .returned (tokV (takeS k σ).1) ∧ ∃ v', More (W' v') w' ∧ GRow tk3 3 X v' (takeS k σ).2.ts := by
  obtain ⟨rfl, hW'⟩ := hm.form
  clear hm
  obtain ⟨ts, l, c, er⟩ := σ
  obtain ⟨h1, h2⟩ := hf
  cases ts with
  | nil => exact absurd rfl h1
  | cons t r =>
    dsimp only at hv hW'
    obtain ⟨ao, cp, rfl, h0⟩ := grow_form (fun _ => by rw [tk3_len]; decide) hv
    have hcap := (grow_cap hv).2
    obtain ⟨b, o, rfl, hb, hd⟩ := h0 (by simp)
    have c0 := hd 0 _ rfl 0 _ rfl
    have c1 := hd 0 _ rfl 1 _ rfl
    have c2 := hd 0 _ rfl 2 _ rfl
    simp only [Nat.zero_mul, Nat.add_zero, Nat.zero_add] at c0 c1 c2
    obtain ⟨kd, tx, L, C⟩ := t
    dsimp only at c0 c1 c2
    have hn := natB kd k
    have HW := Lib.hid hW'
    have HV := Lib.hid hv
    clear hW' hd h0
    simp only [List.length_cons] at hcap
    by_cases hk : kd = k
    · subst hk
      have hT : takeS kd ⟨⟨kd, tx, L, C⟩ :: r, l, c, er⟩ = (⟨kd, tx, L, C⟩, ⟨r, l, c, er⟩) := by unfold takeS; dsimp only; rw [if_pos rfl]
      rw [decide_eq_true rfl] at hn
      have HT := Lib.hid hT
      clear hT
      have hdr : ∃ a9, (if cp = 1 then (some ⟨b, o, none⟩ : Option Addr) else some ⟨b, o + 3, none⟩) = a9 ∧ GRow tk3 3 X (.slice a9 r.length (cp - 1)) r := by
        by_cases hc9 : cp = 1
        · refine ⟨_, rfl, ?_⟩
          have hr0 : r = [] := List.length_eq_zero_iff.1 (by omega)
          rw [if_pos hc9, hr0]
          exact .inr ⟨b, o, cp - 1, rfl, by simp, fun k a h => by simp at h⟩
        · refine ⟨_, rfl, ?_⟩
          rw [if_neg hc9]
          have := HV.out.drop (k := 1) (c' := cp - 1) (by simp) (by simp; omega)
          simpa using this
      obtain ⟨a9, ha9, hg9⟩ := hdr
      have HG := Lib.hid hg9
      clear hg9 hv
      go_enter Tryz.func53, Tryz.ntmps53
      go_wp2_with fail
      go_returns
      rw [HT.out]
      refine ⟨rfl, .slice a9 r.length (cp - 1), ?_, HG.out⟩
      rw [HW.out, HT.out]
      exact (by repeat (first | exact More.refl _ | refine More.alloc ?_ _ | refine More.more ?_ _ | refine More.drew ?_ | refine More.drewN ?_ _))
    · have hT : takeS k ⟨⟨kd, tx, L, C⟩ :: r, l, c, er⟩ = (Z0T, failS 2 L C ⟨⟨kd, tx, L, C⟩ :: r, l, c, er⟩) := by unfold takeS; dsimp only; rw [if_neg hk]
      rw [decide_eq_false hk] at hn
      have HT := Lib.hid hT
      clear hT
      go_enter Tryz.func53, Tryz.ntmps53
      go_wp2_with fail
      go_at_call 58
      refine Calls.mono (fail_m 2 L C X (.slice (some ⟨b, o, none⟩) (⟨kd, tx, L, C⟩ :: r : List Tk).length cp) ⟨⟨kd, tx, L, C⟩ :: r, l, c, er⟩ (by (repeat (first | exact Moved.self | apply Moved.alloc | apply Moved.more | apply Moved.drew)))) ?_
      rintro en w' ⟨rfl, rfl⟩
      have hts := ts_fail 2 L C ⟨⟨kd, tx, L, C⟩ :: r, l, c, er⟩
      have HS := Lib.hid hts
      clear hts
      go_wp2_with fail
      go_returns
      rw [HT.out]
      refine ⟨tok_zero, .slice (some ⟨b, o, none⟩) (⟨kd, tx, L, C⟩ :: r : List Tk).length cp, ?_, (show GRow tk3 3 X _ (failS 2 L C ⟨⟨kd, tx, L, C⟩ :: r, l, c, er⟩).ts by rw [HS.out]; exact HV.out)⟩
      rw [HW.out, HT.out]
      exact (by repeat (first | exact More.refl _ | refine More.alloc ?_ _ | refine More.more ?_ _ | refine More.drew ?_ | refine More.drewN ?_ _))

/-! ### Words in a slice -/
def str1 (s : List UInt8) : List Value := [.string (bsOf s)]
abbrev Strs (w : World) (v : Value) (l : List (List UInt8)) : Prop := GRow str1 1 w v l
theorem str1_len (s : List UInt8) : (str1 s).length = 1 := rfl
theorem str1_pos (s : List UInt8) : 0 < (str1 s).length := by rw [str1_len]; decide

set_option maxHeartbeats 4000000 in
theorem indexS_c (v : Value) (l : List (List UInt8)) (t : List UInt8) (W : World) (hv : Strs W v l) (hl : l.length ≤ 1000000) :
    Calls Tryz.prog 96 #[v, .string (bsOf t)] W fun e w' => e = .returned (.int .i64 (if t ∈ l then (l.idxOf t : Int) else -1)) ∧ W = w' := by
  obtain ⟨V, hV⟩ : ∃ V : Int, (if t ∈ l then (l.idxOf t : Int) else -1) = V := ⟨_, rfl⟩
  rw [hV]
  have HV := Lib.hid hV
  clear hV
  obtain ⟨ao, c, rfl, h0⟩ := grow_form str1_pos hv
  go_enter Tryz.func96, Tryz.ntmps96
  go_wp2_with fail
  go_loop [8] (fun x => ∃ k : Nat, k ≤ l.length ∧ x = .int .i64 k ∧ ∀ j, j < k → ∀ s, l[j]? = some s → s ≠ t) (fun x => l.length - (intOf x).toNat)
  case atStart => exact ⟨0, by omega, rfl, fun j h => by omega⟩
  case round =>
    obtain ⟨k, hk, rfl, hno⟩ := hrel
    have HN := Lib.hid hno
    clear hno hv
    by_cases hkl : k < l.length
    · obtain ⟨b, o, rfl, hb, hd⟩ := h0 (by omega)
      obtain ⟨s, hs⟩ : ∃ s, l[k]? = some s := ⟨l[k], List.getElem?_eq_getElem hkl⟩
      have c0 := hd k s hs 0 _ rfl
      simp only [Nat.mul_one, Nat.add_zero] at c0
      have HS := Lib.hid hs
      clear hs hd h0
      by_cases he : s = t
      · have hq : (t == s) = true := by rw [he]; simp
        have HE := Lib.hid he
        clear he
        go_wp2_with fail
        go_returns
        have e1 : t ∈ l := HE.out ▸ List.mem_of_getElem? HS.out
        have e2 : l.idxOf t = k := idx_at HS.out HE.out HN.out
        rw [← HV.out, if_pos e1, e2]
        exact ⟨rfl, rfl⟩
      · have hq : (t == s) = false := by simpa using fun h => he h.symm
        have HE := Lib.hid he
        clear he
        go_wp2_with fail
        go_round
        case rel => exact ⟨k + 1, by omega, rfl, fun j hj s' hs' => by
          rcases Nat.lt_or_ge j k with h1 | h1
          · exact HN.out j h1 s' hs'
          · obtain rfl : j = k := by omega
            rw [HS.out] at hs'
            cases hs'
            exact HE.out⟩
        case measure => simp [intOf] <;> omega
    · obtain rfl : k = l.length := by omega
      clear h0
      go_wp2_with fail
      go_returns
      rw [← HV.out, if_neg (fun hm => by
        obtain ⟨j, hj⟩ := List.mem_iff_getElem?.1 hm
        exact HN.out j (List.getElem?_eq_some_iff.1 hj).1 t hj rfl)]
      exact ⟨rfl, rfl⟩

set_option maxHeartbeats 4000000 in
theorem contains_c (v : Value) (l : List (List UInt8)) (t : List UInt8) (W : World) (hv : Strs W v l) (hl : l.length ≤ 1000000) :
    Calls Tryz.prog 78 #[v, .string (bsOf t)] W fun e w' => e = .returned (.bool (decide (t ∈ l))) ∧ W = w' := by
  obtain ⟨ao, c, rfl, h0⟩ := grow_form str1_pos hv
  have h1 := indexS_c _ l t W hv hl
  clear h0
  by_cases hm : t ∈ l
  · rw [if_pos hm] at h1
    rw [decide_eq_true hm]
    have H1 := Lib.hid h1
    clear h1 hm hv
    go_enter Tryz.func78, Tryz.ntmps78
    go_wp2_with (first | (go_at_call 96; refine H1.out.mono ?_; rintro e w' ⟨rfl, rfl⟩))
    go_returns
    exact ⟨by simp, rfl⟩
  · rw [if_neg hm] at h1
    rw [decide_eq_false hm]
    have H1 := Lib.hid h1
    clear h1 hm hv
    go_enter Tryz.func78, Tryz.ntmps78
    go_wp2_with (first | (go_at_call 96; refine H1.out.mono ?_; rintro e w' ⟨rfl, rfl⟩))
    go_returns
    exact ⟨rfl, rfl⟩

end Go.Proofs.YtekhhekkepijoaaGreatDoor

namespace Go.Proofs.YtekhhekkepijoaaGreatDoor
set_option linter.unusedVariables false
open Go.ChangeShapes Go.WideShapes Go.ChangeAt Go.RowKit

theorem dec_same (a b : Dec) : decLess a b = lessD a b := rfl
theorem has_same (t : List UInt8) (l : List Gl) : hasName t l = decide (t ∈ l.map Gl.name) := by
  rw [Bool.eq_iff_iff]
  simp [hasName]
set_option maxHeartbeats 4000000 in
theorem word_m (ws : List (List UInt8)) (u : Value) (X : World) (v : Value) (σ : RdS) {W : World} {W' W1 : Value → World} {R : Rest} (hm : RdMoved X v σ (wordS ws σ).2 W W' R) (hm1 : RdMoved X v σ (takeS 1 σ).2 W W1 R)
    (hu : ∀ v', Strs (W1 v') u ws) (hl : ws.length ≤ 1000000) (hf : FineS σ) (hv : GRow tk3 3 X v σ.ts) :
    Calls Tryz.prog 52 #[.pointer (some ⟨X.heap.size, 0, none⟩), u] W fun en w' => en = .returned (tokV (wordS ws σ).1) ∧ ∃ v', More (W' v') w' ∧ GRow tk3 3 X v' (wordS ws σ).2.ts := by
  obtain ⟨rfl, hW'⟩ := hm.form
  clear hm
  have HW := Lib.hid hW'
  have HU := Lib.hid hu
  obtain ⟨-, hW1⟩ := hm1.form
  clear hm1 hW' hu
  obtain ⟨⟨t, τ⟩, ht⟩ : ∃ x, takeS 1 σ = x := ⟨_, rfl⟩
  have HT := Lib.hid ht
  have H1 := Lib.hid hW1
  clear ht hW1
  go_enter Tryz.func52, Tryz.ntmps52
  go_wp2_with fail
  go_at_call 53
  refine Calls.mono (take_m 1 X v σ (by intro v'; (repeat (first | exact Moved.self | apply Moved.alloc | apply Moved.more | apply Moved.drew))) hf hv) ?_
  rintro en w' ⟨rfl, v1, ⟨r, rfl⟩, h1⟩
  rw [HT.out] at h1 ⊢
  dsimp only at h1 ⊢
  have hs : Strs (more (X.alloc (rdO v1 τ)) R) u ws := by
    have := HU.out v1
    rw [H1.out, HT.out] at this
    exact this
  obtain ⟨kd, tx, L, C⟩ := t
  have HV := Lib.hid h1
  clear h1 HU H1
  by_cases hw : tx ∈ ws
  · have e1 : wordS ws σ = (⟨kd, tx, L, C⟩, τ) := by unfold wordS; rw [HT.out]; dsimp only; rw [if_pos hw]
    have hq : decide (tx ∈ ws) = true := decide_eq_true hw
    have HE := Lib.hid e1
    clear e1 hw HT
    go_wp2_with (first | (go_at_call 78; (refine Calls.mono (contains_c u ws tx _ (by (repeat (first | assumption | with_reducible apply GRow.more | with_reducible apply GRow.alloc | with_reducible apply GRow.drew | with_reducible apply GRow.drewN))) hl) ?_); rintro e w' ⟨rfl, rfl⟩))
    go_returns
    rw [HE.out]
    refine ⟨rfl, v1, ?_, HV.out⟩
    rw [HW.out, HE.out]
    exact (by repeat (first | exact More.refl _ | refine More.alloc ?_ _ | refine More.more ?_ _ | refine More.drew ?_ | refine More.drewN ?_ _))
  · have e1 : wordS ws σ = (⟨kd, tx, L, C⟩, failS 2 L C τ) := by unfold wordS; rw [HT.out]; dsimp only; rw [if_neg hw]
    have hq : decide (tx ∈ ws) = false := decide_eq_false hw
    have HE := Lib.hid e1
    clear e1 hw HT
    go_wp2_with (first | (go_at_call 78; (refine Calls.mono (contains_c u ws tx _ (by (repeat (first | assumption | with_reducible apply GRow.more | with_reducible apply GRow.alloc | with_reducible apply GRow.drew | with_reducible apply GRow.drewN))) hl) ?_); rintro e w' ⟨rfl, rfl⟩) | (go_at_call 58; (refine Calls.mono (fail_m 2 L C X v1 τ (by (repeat (first | exact Moved.self | apply Moved.alloc | apply Moved.more | apply Moved.drew)))) ?_); rintro e w' ⟨rfl, rfl⟩))
    go_returns
    rw [HE.out]
    refine ⟨rfl, v1, ?_, (show GRow tk3 3 X v1 (failS 2 L C τ).ts by rw [ts_fail]; exact HV.out)⟩
    rw [HW.out, HE.out]
    exact (by repeat (first | exact More.refl _ | refine More.alloc ?_ _ | refine More.more ?_ _ | refine More.drew ?_ | refine More.drewN ?_ _))

set_option maxHeartbeats 4000000 in
theorem number_m (X : World) (v : Value) (σ : RdS) {W : World} {W' : Value → World} {R : Rest} (hm : RdMoved X v σ (numS σ).2.2 W W' R) (hf : FineS σ) (hv : GRow tk3 3 X v σ.ts) :
    Calls Tryz.prog 79 #[.pointer (some ⟨X.heap.size, 0, none⟩)] W fun en w' => en = .returned (.tuple #[decV (numS σ).1, .complex .f64 (nw (numS σ).2.1.line) (nw (numS σ).2.1.col)]) ∧ ∃ v', More (W' v') w' ∧ GRow tk3 3 X v' (numS σ).2.2.ts := by
  obtain ⟨rfl, hW'⟩ := hm.form
  clear hm
  have HW := Lib.hid hW'
  clear hW'
  have hlen := num_len (k := 2) hf
  obtain ⟨⟨⟨kd, tx, L, C⟩, τ⟩, ht⟩ : ∃ x, takeS 2 σ = x := ⟨_, rfl⟩
  rw [ht] at hlen
  dsimp only at hlen
  obtain ⟨⟨c, s⟩, hd⟩ : ∃ d, (readP tx).1 = d := ⟨_, rfl⟩
  obtain ⟨p, hp⟩ : ∃ p, (readP tx).2 = p := ⟨_, rfl⟩
  have e1 : numS σ = (⟨c, s⟩, ⟨kd, tx, L, C⟩, τ) := by unfold numS; rw [ht]; dsimp only; rw [hd]
  have HE := Lib.hid e1
  have HT := Lib.hid ht
  clear ht e1
  go_enter Tryz.func79, Tryz.ntmps79
  go_wp2_with (first | (go_at_call 49; (with_reducible refine (read_c _ (by (try simp only [size_bs]); omega) _).mono ?_); rintro e w' ⟨rfl, r, rfl⟩) | ((with_reducible show Code.wp _ (Code.region 3 _ true) _ _ _); (with_reducible refine wp_more_tailq_m (id := 3) 3 ?_ ?_ ?_); kernel_rfl; kernel_rfl; (try simp only [List.take_succ_cons, List.take_zero, List.drop_succ_cons, List.drop_zero]); (repeat (any_goals (first | go_big_quiet_step (fail) | quiet_step (fail)))); (with_reducible refine wpQuiet_nil ?_); intro r) | ((with_reducible show Code.wp _ (Code.region 3 _ true) _ _ _); (with_reducible refine wp_more_tailq (id := 3) 3 ?_ ?_ ?_); kernel_rfl; kernel_rfl; (try simp only [List.take_succ_cons, List.take_zero, List.drop_succ_cons, List.drop_zero]); (repeat (any_goals (first | go_big_quiet_step (fail) | quiet_step (fail)))); (with_reducible refine wpQuiet_nil ?_); intro r))
  go_at_call 53
  refine Calls.mono (take_m 2 X v σ (by intro v'; (repeat (first | exact Moved.self | apply Moved.alloc | apply Moved.more | apply Moved.drew))) hf hv) ?_
  rintro en w' ⟨rfl, v1, ⟨r, rfl⟩, h1⟩
  rw [HT.out] at h1 ⊢
  dsimp only at h1 ⊢
  have HV := Lib.hid h1
  clear h1
  go_wp2_with (first | (go_at_call 49; (with_reducible refine (read_c _ (by (try simp only [size_bs]); omega) _).mono ?_); rintro e w' ⟨rfl, r, rfl⟩))
  go_region
  all_goals go_wp2_with fail
  all_goals go_returns
  rw [HE.out]
  refine ⟨rfl, v1, ?_, HV.out⟩
  rw [HW.out, HE.out]
  exact (by repeat (first | exact More.refl _ | refine More.alloc ?_ _ | refine More.more ?_ _ | refine More.drew ?_ | refine More.drewN ?_ _))

end Go.Proofs.YtekhhekkepijoaaGreatDoor

namespace Go.Proofs.YtekhhekkepijoaaGreatDoor
set_option linter.unusedVariables false
open Go.ChangeShapes Go.WideShapes Go.ChangeAt Go.RowKit

set_option maxHeartbeats 4000000 in
theorem above_m (X : World) (v : Value) (σ : RdS) {W : World} {W' : Value → World} {R : Rest} (hm : RdMoved X v σ (posS σ).2 W W' R) (hf : FineS σ) (hv : GRow tk3 3 X v σ.ts) :
    Calls Tryz.prog 54 #[.pointer (some ⟨X.heap.size, 0, none⟩)] W fun en w' => en = .returned (decV (posS σ).1) ∧ ∃ v', More (W' v') w' ∧ GRow tk3 3 X v' (posS σ).2.ts := by
  obtain ⟨rfl, hW'⟩ := hm.form
  clear hm
  have HW := Lib.hid hW'
  clear hW'
  obtain ⟨⟨⟨c, s⟩, ⟨kd, tx, L, C⟩, τ⟩, ht⟩ : ∃ x, numS σ = x := ⟨_, rfl⟩
  have HT := Lib.hid ht
  clear ht
  go_enter Tryz.func54, Tryz.ntmps54
  go_wp2_with fail
  go_at_call 79
  refine Calls.mono (number_m X v σ (by intro v'; (repeat (first | exact Moved.self | apply Moved.alloc | apply Moved.more | apply Moved.drew))) hf hv) ?_
  rintro en w' ⟨rfl, v1, ⟨r, rfl⟩, h1⟩
  rw [HT.out] at h1 ⊢
  dsimp only at h1 ⊢
  have HV := Lib.hid h1
  clear h1
  by_cases hc : c ≤ 0
  · have e1 : posS σ = (⟨c, s⟩, failS 1 L C τ) := by unfold posS; rw [HT.out]; dsimp only; rw [if_pos hc]
    have HE := Lib.hid e1
    clear e1 HT
    go_wp2_with (first | (go_at_call 58; (refine Calls.mono (fail_m 1 L C X v1 τ (by (repeat (first | exact Moved.self | apply Moved.alloc | apply Moved.more | apply Moved.drew)))) ?_); rintro e w' ⟨rfl, rfl⟩))
    go_returns
    rw [HE.out]
    refine ⟨rfl, v1, ?_, (show GRow tk3 3 X v1 (failS 1 L C τ).ts by rw [ts_fail]; exact HV.out)⟩
    rw [HW.out, HE.out]
    exact (by repeat (first | exact More.refl _ | refine plus_more ?_ | refine More.alloc ?_ _ | refine More.more ?_ _ | refine More.drew ?_ | refine More.drewN ?_ _))
  · have e1 : posS σ = (⟨c, s⟩, τ) := by unfold posS; rw [HT.out]; dsimp only; rw [if_neg hc]
    have HE := Lib.hid e1
    clear e1 HT
    go_wp2_with fail
    go_returns
    rw [HE.out]
    refine ⟨rfl, v1, ?_, HV.out⟩
    rw [HW.out, HE.out]
    exact (by repeat (first | exact More.refl _ | refine plus_more ?_ | refine More.alloc ?_ _ | refine More.more ?_ _ | refine More.drew ?_ | refine More.drewN ?_ _))

set_option maxHeartbeats 4000000 in
theorem thick_m (X : World) (v : Value) (σ : RdS) {W : World} {W' : Value → World} {R : Rest} (hm : RdMoved X v σ (thkS σ).2 W W' R) (hf : FineS σ) (hv : GRow tk3 3 X v σ.ts) :
    Calls Tryz.prog 97 #[.pointer (some ⟨X.heap.size, 0, none⟩)] W fun en w' => en = .returned (decV (thkS σ).1) ∧ ∃ v', More (W' v') w' ∧ GRow tk3 3 X v' (thkS σ).2.ts := by
  obtain ⟨rfl, hW'⟩ := hm.form
  clear hm
  have HW := Lib.hid hW'
  clear hW'
  obtain ⟨⟨⟨c, s⟩, ⟨kd, tx, L, C⟩, τ⟩, ht⟩ : ∃ x, numS σ = x := ⟨_, rfl⟩
  have HT := Lib.hid ht
  clear ht
  go_enter Tryz.func97, Tryz.ntmps97
  go_wp2_with fail
  go_at_call 79
  refine Calls.mono (number_m X v σ (by intro v'; (repeat (first | exact Moved.self | apply Moved.alloc | apply Moved.more | apply Moved.drew))) hf hv) ?_
  rintro en w' ⟨rfl, v1, ⟨r, rfl⟩, h1⟩
  rw [HT.out] at h1 ⊢
  dsimp only at h1 ⊢
  have HV := Lib.hid h1
  clear h1
  by_cases hc : c < 0
  · have e1 : thkS σ = (⟨c, s⟩, failS 1 L C τ) := by unfold thkS; rw [HT.out]; dsimp only; rw [if_pos hc]
    have HE := Lib.hid e1
    clear e1 HT
    go_wp2_with (first | (go_at_call 58; (refine Calls.mono (fail_m 1 L C X v1 τ (by (repeat (first | exact Moved.self | apply Moved.alloc | apply Moved.more | apply Moved.drew)))) ?_); rintro e w' ⟨rfl, rfl⟩))
    go_returns
    rw [HE.out]
    refine ⟨rfl, v1, ?_, (show GRow tk3 3 X v1 (failS 1 L C τ).ts by rw [ts_fail]; exact HV.out)⟩
    rw [HW.out, HE.out]
    exact (by repeat (first | exact More.refl _ | refine plus_more ?_ | refine More.alloc ?_ _ | refine More.more ?_ _ | refine More.drew ?_ | refine More.drewN ?_ _))
  · have e1 : thkS σ = (⟨c, s⟩, τ) := by unfold thkS; rw [HT.out]; dsimp only; rw [if_neg hc]
    have HE := Lib.hid e1
    clear e1 HT
    go_wp2_with fail
    go_returns
    rw [HE.out]
    refine ⟨rfl, v1, ?_, HV.out⟩
    rw [HW.out, HE.out]
    exact (by repeat (first | exact More.refl _ | refine plus_more ?_ | refine More.alloc ?_ _ | refine More.more ?_ _ | refine More.drew ?_ | refine More.drewN ?_ _))

set_option maxHeartbeats 4000000 in
theorem glass_m (g : Value) (G : List Gl) (X : World) (v : Value) (σ : RdS) {W : World} {W' : Value → World} {R : Rest} (hm : RdMoved X v σ (glsS (G.map Gl.name) σ).2 W W' R) (hg : Gls X g G) (hG : G.length ≤ 1000000) (hf : FineS σ) (hv : GRow tk3 3 X v σ.ts) :
    Calls Tryz.prog 99 #[.pointer (some ⟨X.heap.size, 0, none⟩), g] W fun en w' => en = .returned (.string (bsOf (glsS (G.map Gl.name) σ).1)) ∧ ∃ v', More (W' v') w' ∧ GRow tk3 3 X v' (glsS (G.map Gl.name) σ).2.ts := by
  obtain ⟨rfl, hW'⟩ := hm.form
  clear hm
  have HW := Lib.hid hW'
  clear hW'
  have hlen := num_len (k := 1) hf
  obtain ⟨⟨⟨kd, tx, L, C⟩, τ⟩, ht⟩ : ∃ x, takeS 1 σ = x := ⟨_, rfl⟩
  rw [ht] at hlen
  dsimp only at hlen
  have hlen : tx.length ≤ 1000000 := by omega
  have HT := Lib.hid ht
  clear ht
  obtain ⟨ga, gc, rfl, -⟩ := grow_form gls_pos hg
  have HG := Lib.hid hg
  clear hg
  go_enter Tryz.func99, Tryz.ntmps99
  go_wp2_with fail
  go_at_call 53
  refine Calls.mono (take_m 1 X v σ (by intro v'; (repeat (first | exact Moved.self | apply Moved.alloc | apply Moved.more | apply Moved.drew))) hf hv) ?_
  rintro en w' ⟨rfl, v1, ⟨r, rfl⟩, h1⟩
  rw [HT.out] at h1 ⊢
  dsimp only at h1 ⊢
  have HV := Lib.hid h1
  clear h1
  obtain ⟨gf, hgf⟩ : ∃ gf, findG tx G = gf := ⟨_, rfl⟩
  obtain ⟨nm, b0, b1, b2, c0, c1, c2⟩ := gf
  have HF := Lib.hid hgf
  clear hgf
  have hall : ∀ (r' : Rest), Gls (more (more (X.alloc (rdO v1 τ)) R) r') (.slice ga G.length gc) G := fun r' => GRow.more (GRow.more (GRow.alloc HG.out))
  have HA := Lib.hid hall
  clear hall
  cases hh : hasName tx G with
  | true =>
    have hkn : knownG (G.map Gl.name) tx = true := by unfold knownG; rw [← has_same, hh]; rfl
    have e1 : glsS (G.map Gl.name) σ = (tx, τ) := by unfold glsS; rw [HT.out]; dsimp only; rw [if_pos hkn]
    have HE := Lib.hid e1
    have HH := Lib.hid hh
    clear e1 HT hkn hh
    go_wp2_with (first | (go_at_call 65; (refine Calls.mono (find_c _ G tx _ (by (repeat (first | assumption | with_reducible apply GRow.more | with_reducible apply GRow.alloc | with_reducible apply GRow.drew | with_reducible apply GRow.drewN))) hG hlen) ?_); rintro e w' ⟨rfl, r5, rfl⟩; rw [HF.out, HH.out]))
    go_returns
    rw [HE.out]
    refine ⟨rfl, v1, ?_, HV.out⟩
    rw [HW.out, HE.out]
    exact (by repeat (first | exact More.refl _ | refine plus_more ?_ | refine More.alloc ?_ _ | refine More.more ?_ _ | refine More.drew ?_ | refine More.drewN ?_ _))
  | false =>
    by_cases ha : tx = airT
    · have hkn : knownG (G.map Gl.name) tx = true := by unfold knownG; rw [decide_eq_true ha, Bool.or_true]
      have e1 : glsS (G.map Gl.name) σ = (tx, τ) := by unfold glsS; rw [HT.out]; dsimp only; rw [if_pos hkn]
      have hq : (tx != [97, 105, 114]) = false := by rw [ha]; rfl
      have hq' : (tx == [97, 105, 114]) = true := by rw [ha]; rfl
      have HE := Lib.hid e1
      have HH := Lib.hid hh
      clear e1 HT hkn hh ha
      go_wp2_with (first | (go_at_call 65; (refine Calls.mono (find_c _ G tx _ (by (repeat (first | assumption | with_reducible apply GRow.more | with_reducible apply GRow.alloc | with_reducible apply GRow.drew | with_reducible apply GRow.drewN))) hG hlen) ?_); rintro e w' ⟨rfl, r5, rfl⟩; rw [HF.out, HH.out]))
      go_returns
      rw [HE.out]
      refine ⟨rfl, v1, ?_, HV.out⟩
      rw [HW.out, HE.out]
      exact (by repeat (first | exact More.refl _ | refine plus_more ?_ | refine More.alloc ?_ _ | refine More.more ?_ _ | refine More.drew ?_ | refine More.drewN ?_ _))
    · have hkn : ¬ knownG (G.map Gl.name) tx = true := by unfold knownG; rw [← has_same, hh, decide_eq_false ha]; decide
      have e1 : glsS (G.map Gl.name) σ = (tx, failS 4 L C τ) := by unfold glsS; rw [HT.out]; dsimp only; rw [if_neg hkn]
      have hq : (tx != [97, 105, 114]) = true := by simpa [airT] using ha
      have hq' : (tx == [97, 105, 114]) = false := by simpa [airT] using ha
      have HE := Lib.hid e1
      have HH := Lib.hid hh
      clear e1 HT hkn hh ha
      go_wp2_with (first | (go_at_call 65; (refine Calls.mono (find_c _ G tx _ (by (repeat (first | assumption | with_reducible apply GRow.more | with_reducible apply GRow.alloc | with_reducible apply GRow.drew | with_reducible apply GRow.drewN))) hG hlen) ?_); rintro e w' ⟨rfl, r5, rfl⟩; rw [HF.out, HH.out]) | (go_at_call 58; (refine Calls.mono (fail_m 4 L C X v1 τ (by (repeat (first | exact Moved.self | apply Moved.alloc | apply Moved.more | apply Moved.drew)))) ?_); rintro e w' ⟨rfl, rfl⟩))
      go_returns
      rw [HE.out]
      refine ⟨rfl, v1, ?_, (show GRow tk3 3 X v1 (failS 4 L C τ).ts by rw [ts_fail]; exact HV.out)⟩
      rw [HW.out, HE.out]
      exact (by repeat (first | exact More.refl _ | refine plus_more ?_ | refine More.alloc ?_ _ | refine More.more ?_ _ | refine More.drew ?_ | refine More.drewN ?_ _))

set_option maxHeartbeats 4000000 in
theorem term_m (wd : List UInt8) (X : World) (v : Value) (σ : RdS) {W : World} {W' : Value → World} {R : Rest} (hm : RdMoved X v σ (trmS wd σ).2 W W' R) (hf : FineS σ) (hv : GRow tk3 3 X v σ.ts) :
    Calls Tryz.prog 100 #[.pointer (some ⟨X.heap.size, 0, none⟩), .string (bsOf wd)] W fun en w' => en = .returned (decV (trmS wd σ).1) ∧ ∃ v', More (W' v') w' ∧ GRow tk3 3 X v' (trmS wd σ).2.ts := by
  obtain ⟨rfl, hW'⟩ := hm.form
  clear hm
  have HW := Lib.hid hW'
  clear hW'
  have hf0 := hf
  have hv0 := hv
  obtain ⟨ao, cp, rfl, h0⟩ := grow_form (fun _ => by rw [tk3_len]; decide) hv
  have hhead : ∃ t r, σ.ts = t :: r ∧ headX σ = t.text := by
    unfold headX
    cases hts : σ.ts with
    | nil => exact absurd hts hf.1
    | cons t r => exact ⟨t, r, rfl, rfl⟩
  obtain ⟨t, rr, hts, hhx⟩ := hhead
  have hpos : 0 < σ.ts.length := by rw [hts]; simp
  obtain ⟨b, o, rfl, hb, hd⟩ := h0 hpos
  have cc := hd 0 t (by rw [hts]; rfl) 1 _ rfl
  simp only [Nat.zero_mul, Nat.zero_add] at cc
  obtain ⟨tx, htx⟩ : ∃ tx, t.text = tx := ⟨_, rfl⟩
  rw [htx] at cc hhx
  have HD := Lib.hid hd
  have HX := Lib.hid hhx
  have HF := Lib.hid hf0
  have HV0 := Lib.hid hv0
  clear hd h0 hts htx hhx hf hf0 hv hv0
  by_cases hw : tx = wd
  · have hq : (tx == wd) = true := by simpa using hw
    have e0 : trmS wd σ = ((numS (takeS 1 σ).2).1, if (numS (takeS 1 σ).2).1.c = 0 then failS 1 (numS (takeS 1 σ).2).2.1.line (numS (takeS 1 σ).2).2.1.col (numS (takeS 1 σ).2).2.2 else (numS (takeS 1 σ).2).2.2) := by unfold trmS; rw [if_pos (HX.out.trans hw)]
    obtain ⟨⟨t1, τ1⟩, ht1⟩ : ∃ x, takeS 1 σ = x := ⟨_, rfl⟩
    obtain ⟨⟨⟨c, s⟩, ⟨kd, tx2, L, C⟩, τ⟩, ht⟩ : ∃ x, numS τ1 = x := ⟨_, rfl⟩
    have hf1 : FineS τ1 := by
      have := HF.out.take (k := 1) (by decide)
      rwa [ht1] at this
    rw [ht1] at e0
    dsimp only at e0
    rw [ht] at e0
    dsimp only at e0
    have HT1 := Lib.hid ht1
    have HT := Lib.hid ht
    have HE0 := Lib.hid e0
    clear ht1 ht e0 hw
    go_enter Tryz.func100, Tryz.ntmps100
    go_wp2_with fail
    go_at_call 53
    refine Calls.mono (take_m 1 X _ σ (by intro v'; (repeat (first | exact Moved.self | apply Moved.alloc | apply Moved.more | apply Moved.drew))) HF.out HV0.out) ?_
    rintro en w' ⟨rfl, v1, ⟨r, rfl⟩, h1⟩
    rw [HT1.out] at h1 ⊢
    dsimp only at h1 ⊢
    obtain ⟨kd1, tx1, L1, C1⟩ := t1
    go_wp2_with fail
    go_at_call 79
    refine Calls.mono (number_m X v1 τ1 (by intro v'; (repeat (first | exact Moved.self | apply Moved.alloc | apply Moved.more | apply Moved.drew))) hf1 h1) ?_
    rintro en w' ⟨rfl, v2, ⟨r2, rfl⟩, h2⟩
    rw [HT.out] at h2 ⊢
    dsimp only at h2 ⊢
    have HV := Lib.hid h2
    clear h2 h1 HT HT1
    by_cases hc : c = 0
    · have e1 : trmS wd σ = (⟨c, s⟩, failS 1 L C τ) := by rw [HE0.out, if_pos hc]
      have HE := Lib.hid e1
      have hq2 : (c == 0) = true := by simpa using hc
      clear e1 HE0
      subst hc
      go_wp2_with (first | (go_at_call 58; (refine Calls.mono (fail_m 1 L C X v2 τ (by (repeat (first | exact Moved.self | apply Moved.alloc | apply Moved.more | apply Moved.drew)))) ?_); rintro e w' ⟨rfl, rfl⟩))
      go_returns
      rw [HE.out]
      refine ⟨rfl, v2, ?_, (show GRow tk3 3 X v2 (failS 1 L C τ).ts by rw [ts_fail]; exact HV.out)⟩
      rw [HW.out, HE.out]
      exact (by repeat (first | exact More.refl _ | refine plus_more ?_ | refine More.alloc ?_ _ | refine More.more ?_ _ | refine More.drew ?_ | refine More.drewN ?_ _))
    · have e1 : trmS wd σ = (⟨c, s⟩, τ) := by rw [HE0.out, if_neg hc]
      have HE := Lib.hid e1
      have hq2 : (c == 0) = false := by simpa using hc
      clear e1 HE0 hc
      go_wp2_with fail
      go_returns
      rw [HE.out]
      refine ⟨rfl, v2, ?_, HV.out⟩
      rw [HW.out, HE.out]
      exact (by repeat (first | exact More.refl _ | refine plus_more ?_ | refine More.alloc ?_ _ | refine More.more ?_ _ | refine More.drew ?_ | refine More.drewN ?_ _))
  · have hq : (tx == wd) = false := by simpa using hw
    have e0 : trmS wd σ = (D0, σ) := by unfold trmS; rw [if_neg (fun h => hw (HX.out.symm.trans h))]
    have HE := Lib.hid e0
    clear e0 hw
    go_enter Tryz.func100, Tryz.ntmps100
    go_wp2_with fail
    go_returns
    rw [HE.out]
    refine ⟨rfl, _, ?_, HV0.out⟩
    rw [HW.out, HE.out]
    exact (by repeat (first | exact More.refl _ | refine plus_more ?_ | refine More.alloc ?_ _ | refine More.more ?_ _ | refine More.drew ?_ | refine More.drewN ?_ _))

end Go.Proofs.YtekhhekkepijoaaGreatDoor
