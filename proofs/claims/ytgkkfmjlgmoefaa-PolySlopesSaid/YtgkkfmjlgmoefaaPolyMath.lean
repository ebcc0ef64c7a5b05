/-
  Sums of powers of whole numbers, and of less: plain numbers alone.
-/
import Derived.Test.YtgkkfmjlgmoefaaRow
import Derived.Test.YtgkkfmjlgmoefaaIvMath3
namespace Go.Proofs.Ytgkkfmjlgmoefaa
set_option linter.unusedVariables false

theorem whole_form {n : Int} (h : -16384 ≤ n ∧ n ≤ 16384) : ivWhole n = ⟨n * 65536, n * 65536, false⟩ := by
  unfold ivWhole
  rw [if_pos (isIn_iff.2 (by omega))]
  unfold ivPoint
  exact of_yes (by omega)
theorem whole_right {n : Int} (h : -16384 ≤ n ∧ n ≤ 16384) : ivRight (ivWhole n) = true := by
  rw [whole_form h]
  exact right_of.2 (by omega)
theorem mul_whole {m n : Int} (hm : -16384 ≤ m ∧ m ≤ 16384) (hn : -16384 ≤ n ∧ n ≤ 16384) (hp : -16384 ≤ m * n ∧ m * n ≤ 16384) : ivMul (ivWhole m) (ivWhole n) = ivWhole (m * n) := by
  have hr := both_iff.2 ⟨whole_right hm, whole_right hn⟩
  unfold ivMul
  rw [if_pos hr, whole_form hm, whole_form hn, whole_form hp]
  have e : m * 65536 * (n * 65536) = m * n * 65536 * 65536 := by
    rw [Int.mul_assoc m, Int.mul_left_comm 65536 n, ← Int.mul_assoc m n, Int.mul_assoc (m * n)]
  simp only [min4, max4, Int.min_self, Int.max_self, e]
  unfold ivOut
  have e1 : (m * n * 65536 * 65536).fdiv 65536 = m * n * 65536 := by rw [Int.fdiv_eq_ediv_of_nonneg _ (by omega)]; omega
  have e2 : -((-(m * n * 65536 * 65536)).fdiv 65536) = m * n * 65536 := by rw [Int.fdiv_eq_ediv_of_nonneg _ (by omega)]; omega
  rw [e1, e2]
  exact of_yes (by omega)
theorem add_whole {m n : Int} (hm : -16384 ≤ m ∧ m ≤ 16384) (hn : -16384 ≤ n ∧ n ≤ 16384) (hp : -16384 ≤ m + n ∧ m + n ≤ 16384) : ivAdd (ivWhole m) (ivWhole n) = ivWhole (m + n) := by
  unfold ivAdd
  rw [if_pos (both_iff.2 ⟨whole_right hm, whole_right hn⟩), whole_form hm, whole_form hn, whole_form hp, Int.add_mul]
  exact of_yes (by simp only; omega)
theorem sub_whole {m n : Int} (hm : -16384 ≤ m ∧ m ≤ 16384) (hn : -16384 ≤ n ∧ n ≤ 16384) (hp : -16384 ≤ m - n ∧ m - n ≤ 16384) : ivSub (ivWhole m) (ivWhole n) = ivWhole (m - n) := by
  rw [sub_eq, if_pos (both_iff.2 ⟨whole_right hm, whole_right hn⟩), whole_form hm, whole_form hn, whole_form hp, Int.sub_mul]
  exact of_yes (by simp only; omega)
theorem times_whole {m k : Int} (hm : -16384 ≤ m ∧ m ≤ 16384) (hk : -16384 ≤ k ∧ k ≤ 16384) (hp : -16384 ≤ k * m ∧ k * m ≤ 16384) : ivTimes (ivWhole m) k = ivWhole (k * m) := by
  unfold ivTimes
  rw [whole_right hm, isIn_iff.2 (by omega)]
  rw [if_pos (show (true && true) = true from rfl), whole_form hm, whole_form hp]
  simp only [Int.min_self, Int.max_self, ← Int.mul_assoc]
  exact of_yes (by omega)

/-- The exact sum. -/
def peval : List Int → Int → Int
  | [], _ => 0
  | a :: l, x => peval l x * x + a
def pbound : Nat → Int
  | 0 => 0
  | n + 1 => pbound n * 6 + 10
theorem pbound_nonneg : ∀ n, 0 ≤ pbound n
  | 0 => by simp [pbound]
  | n + 1 => by have := pbound_nonneg n; simp only [pbound]; omega
theorem pbound_mono {n m : Nat} (h : n ≤ m) : pbound n ≤ pbound m := by
  induction m with
  | zero => obtain rfl : n = 0 := by omega
            exact Int.le_refl _
  | succ m ih =>
    rcases Nat.lt_or_ge n (m + 1) with hlt | hge
    · have := ih (by omega)
      have := pbound_nonneg m
      simp only [pbound]
      omega
    · obtain rfl : n = m + 1 := by omega
      exact Int.le_refl _
theorem mul_six {p x b : Int} (hp : -b ≤ p ∧ p ≤ b) (hx : -6 ≤ x ∧ x ≤ 6) : -(b * 6) ≤ p * x ∧ p * x ≤ b * 6 := mul_bd hp hx
theorem peval_bd {x : Int} (hx : -6 ≤ x ∧ x ≤ 6) : ∀ l : List Int, (∀ k ∈ l, -10 ≤ k ∧ k ≤ 10) → -(pbound l.length) ≤ peval l x ∧ peval l x ≤ pbound l.length
  | [], _ => by simp [peval, pbound]
  | a :: l, h => by
    have h1 := peval_bd hx l fun k hk => h k (by simp [hk])
    have h2 := h a (by simp)
    have h3 := mul_six h1 hx
    simp only [peval, List.length_cons, pbound]
    omega
theorem horner_whole {x : Int} (hx : -6 ≤ x ∧ x ≤ 6) : ∀ l : List Int, l.length ≤ 5 → (∀ k ∈ l, -10 ≤ k ∧ k ≤ 10) → horner (l.map ivWhole) (ivWhole x) = ivWhole (peval l x)
  | [], _, _ => by rfl
  | [a], _, h => by
    have h2 := h a (by simp)
    simp only [List.map_cons, List.map_nil, horner, peval]
    rw [whole_right (by omega), if_pos rfl, Int.zero_mul, Int.zero_add]
  | a :: b :: l, hl, h => by
    have h2 := h a (by simp)
    have hb := peval_bd hx (b :: l) fun k hk => h k (by simp [List.mem_cons.1 hk])
    have hm := mul_six hb hx
    have ih := horner_whole hx (b :: l) (by simp at hl ⊢; omega) fun k hk => h k (by simp [List.mem_cons.1 hk])
    have h5 : pbound (b :: l).length ≤ 2590 := pbound_mono (m := 4) (by simp at hl ⊢; omega)
    simp only [List.map_cons, horner]
    rw [← List.map_cons, ih, mul_whole (by omega) (by omega) (by omega), add_whole (by omega) (by omega) (by omega)]
    rfl
theorem peval_small {x : Int} (hx : -6 ≤ x ∧ x ≤ 6) (l : List Int) (hl : l.length ≤ 5) (h : ∀ k ∈ l, -10 ≤ k ∧ k ≤ 10) : -15550 ≤ peval l x ∧ peval l x ≤ 15550 := by
  have h1 := peval_bd hx l h
  have h2 : pbound l.length ≤ 15550 := pbound_mono (m := 5) hl
  omega

/-! Of less in less. -/
theorem right_add {a b : Iv} (h : ivRight (ivAdd a b) = true) : ivRight a = true ∧ ivRight b = true := by
  unfold ivAdd at h
  by_cases hb : ivBoth a b = true
  · exact both_iff.1 hb
  · rw [if_neg hb] at h
    simp [right_none] at h
theorem right_mul {a b : Iv} (h : ivRight (ivMul a b) = true) : ivRight a = true ∧ ivRight b = true := by
  unfold ivMul at h
  by_cases hb : ivBoth a b = true
  · exact both_iff.1 hb
  · rw [if_neg hb] at h
    simp [right_none] at h
theorem less_part {a b : Iv} (h : ivLess a b = true) (hb : ivRight b = true) : Part a b := by
  unfold ivLess at h
  rw [hb] at h
  have h1 : ivInside a b = true := by simpa using h
  obtain ⟨h2, h3, h4, h5⟩ := inside_iff.1 h1
  exact ⟨h2, h3, h4, h5⟩
theorem part_less {a b : Iv} (h : Part a b) : ivLess a b = true := by
  unfold ivLess
  rw [inside_iff.2 ⟨h.1, h.2.1, h.2.2.1, h.2.2.2⟩, Bool.or_true]
theorem less_bad {a b : Iv} (h : ivRight b = false) : ivLess a b = true := by
  unfold ivLess
  rw [h]
  rfl
theorem less_step {p q x y d c : Iv} (h : ivLess q p = true) (hx : Part x y) (hd : Part d c) : ivLess (ivAdd (ivMul q x) d) (ivAdd (ivMul p y) c) = true := by
  cases hr : ivRight (ivAdd (ivMul p y) c)
  · exact less_bad hr
  · have h1 := right_add hr
    have h2 := right_mul h1.1
    exact less_add (less_part (less_mul (less_part h h2.1) hx) h1.1) hd
/-- Two lists, each interval of the first in its fellow. -/
def Parts : List Iv → List Iv → Prop
  | [], [] => True
  | a :: l, b :: m => Part a b ∧ Parts l m
  | _, _ => False
theorem horner_less {x y : Iv} (hx : Part x y) : ∀ l m : List Iv, Parts l m → ivLess (horner l x) (horner m y) = true
  | [], [], _ => by rfl
  | [a], [b], h => by
    simp only [horner]
    rw [h.1.1, h.1.2.1, if_pos rfl, if_pos rfl]
    exact part_less h.1
  | a :: c :: l, b :: d :: m, h => by
    have ih := horner_less hx (c :: l) (d :: m) h.2
    simp only [horner]
    exact less_step ih hx h.1
  | [], _ :: _, h => h.elim
  | _ :: _, [], h => h.elim
  | [_], _ :: _ :: _, h => h.2.elim
  | _ :: _ :: _, [_], h => h.2.elim
theorem parts_snoc {a b : Iv} (h : Part a b) : ∀ l m : List Iv, Parts l m → Parts (l ++ [a]) (m ++ [b])
  | [], [], _ => ⟨h, trivial⟩
  | _ :: l, _ :: m, h1 => ⟨h1.1, parts_snoc h l m h1.2⟩
  | [], _ :: _, h1 => h1.elim
  | _ :: _, [], h1 => h1.elim

/-! Lists that grow at their end. -/
def ppow (x : Int) : Nat → Int
  | 0 => 1
  | n + 1 => ppow x n * x
theorem peval_snoc (x k : Int) : ∀ l : List Int, peval (l ++ [k]) x = peval l x + k * ppow x l.length
  | [] => by simp [peval, ppow]
  | a :: l => by
    have ih := peval_snoc x k l
    simp only [List.cons_append, peval, ih, List.length_cons, ppow, Int.add_mul, Int.mul_assoc]
    omega
theorem ppow_bd {x : Int} (hx : -6 ≤ x ∧ x ≤ 6) {n : Nat} (h : n ≤ 4) : -1296 ≤ ppow x n ∧ ppow x n ≤ 1296 := by
  have s : ∀ (p b : Int), -b ≤ p ∧ p ≤ b → -(b * 6) ≤ p * x ∧ p * x ≤ b * 6 := fun p b hp => mul_six hp hx
  have h1 := s 1 1 (by omega)
  have h2 := s _ _ h1
  have h3 := s _ _ h2
  have h4 := s _ _ h3
  match n, h with
  | 0, _ => simp [ppow]
  | 1, _ => simp only [ppow]; omega
  | 2, _ => simp only [ppow]; omega
  | 3, _ => simp only [ppow]; omega
  | 4, _ => simp only [ppow]; omega
def kAt (l : List Int) (j : Nat) : Int := l.getD j 0 % 21 - 10
def ksTo (l : List Int) (n : Nat) : List Int := (List.range n).map (kAt l)
def dsTo (l : List Int) (n : Nat) : List Iv := (ksTo l n).map ivWhole
def csTo (l : List Int) (m : Int) (n : Nat) : List Iv := (List.range n).map fun j => hWide (kAt l j * 65536 - m.tdiv ((j : Int) + 1) % 50) 100
theorem kAt_bd (l : List Int) (j : Nat) : -10 ≤ kAt l j ∧ kAt l j ≤ 10 := by unfold kAt; omega
theorem ksTo_length (l : List Int) (n : Nat) : (ksTo l n).length = n := by simp [ksTo]
theorem dsTo_length (l : List Int) (n : Nat) : (dsTo l n).length = n := by simp [dsTo, ksTo]
theorem csTo_length (l : List Int) (m : Int) (n : Nat) : (csTo l m n).length = n := by simp [csTo]
theorem ksTo_bd (l : List Int) (n : Nat) : ∀ k ∈ ksTo l n, -10 ≤ k ∧ k ≤ 10 := by
  intro k hk
  obtain ⟨j, _, rfl⟩ := List.mem_map.1 hk
  exact kAt_bd l j
theorem ksTo_succ (l : List Int) (n : Nat) : ksTo l (n + 1) = ksTo l n ++ [kAt l n] := by simp [ksTo, List.range_succ]
theorem dsTo_succ (l : List Int) (n : Nat) : dsTo l (n + 1) = dsTo l n ++ [ivWhole (kAt l n)] := by unfold dsTo; rw [ksTo_succ, List.map_append]; rfl
theorem csTo_succ (l : List Int) (m : Int) (n : Nat) : csTo l m (n + 1) = csTo l m n ++ [hWide (kAt l n * 65536 - m.tdiv ((n : Int) + 1) % 50) 100] := by simp [csTo, List.range_succ]
theorem whole_wide {k p w : Int} (hk : -10 ≤ k ∧ k ≤ 10) (hp : 0 ≤ p ∧ p < 50) (hw : p ≤ w ∧ w ≤ 1000) : Part (ivWhole k) (hWide (k * 65536 - p) w) := by
  rw [whole_form (by omega)]
  have e : hWide (k * 65536 - p) w = ⟨k * 65536 - p, k * 65536 - p + w, false⟩ := by
    unfold hWide within
    simp only [Iv.mk.injEq, and_true]
    omega
  rw [e]
  exact ⟨right_of.2 (by omega), right_of.2 (by omega), by simp only; omega, by simp only; omega⟩
theorem parts_to (l : List Int) (m : Int) : ∀ n, Parts (dsTo l n) (csTo l m n)
  | 0 => trivial
  | n + 1 => by
    rw [dsTo_succ, csTo_succ]
    exact parts_snoc (whole_wide (kAt_bd l n) (by omega) (by omega)) _ _ (parts_to l m n)
/-- What the law asks behind the loop. -/
theorem encl_facts {l : List Int} {m x p : Int} {n : Nat} (hn : n ≤ 5) (hx : -6 ≤ x ∧ x ≤ 6) (hp : 0 ≤ p ∧ p < 9) :
    (-15550 ≤ peval (ksTo l n) x ∧ peval (ksTo l n) x ≤ 15550) ∧ horner (dsTo l n) (ivWhole x) = ⟨peval (ksTo l n) x * 65536, peval (ksTo l n) x * 65536, false⟩ ∧
    ivHas ⟨peval (ksTo l n) x * 65536, peval (ksTo l n) x * 65536, false⟩ (peval (ksTo l n) x * 65536) = true ∧
    (ivRight (horner (csTo l m n) (hWide (x * 65536 - p) 20)) = true → ivInside ⟨peval (ksTo l n) x * 65536, peval (ksTo l n) x * 65536, false⟩ (horner (csTo l m n) (hWide (x * 65536 - p) 20)) = true) := by
  have hb := peval_small hx (ksTo l n) (by rw [ksTo_length]; exact hn) (ksTo_bd l n)
  have e : horner (dsTo l n) (ivWhole x) = ⟨peval (ksTo l n) x * 65536, peval (ksTo l n) x * 65536, false⟩ := by
    unfold dsTo
    rw [horner_whole hx _ (by rw [ksTo_length]; exact hn) (ksTo_bd l n), whole_form (by omega)]
  refine ⟨hb, e, ?_, fun hr => ?_⟩
  · unfold ivHas
    rw [right_of.2 (by omega)]
    simp
  · have h := horner_less (whole_wide (k := x) (p := p) (w := 20) (by omega) (by omega) (by omega)) (dsTo l n) (csTo l m n) (parts_to l m n)
    rw [e] at h
    unfold ivLess at h
    rw [hr] at h
    simpa using h

/-! Three whole numbers. -/
theorem quad_facts {a b c x : Int} (ha : -20 ≤ a ∧ a ≤ 20) (hb : -20 ≤ b ∧ b ≤ 20) (hc : -20 ≤ c ∧ c ≤ 20) (hx : -7 ≤ x ∧ x ≤ 7) :
    horner [ivWhole a, ivWhole b, ivWhole c] (ivWhole x) = ivWhole ((c * x + b) * x + a) ∧ (-1260 ≤ (c * x + b) * x + a ∧ (c * x + b) * x + a ≤ 1260) ∧
    horner (slope [ivWhole a, ivWhole b, ivWhole c]) (ivWhole x) = ivWhole (b + 2 * c * x) ∧ (-300 ≤ b + 2 * c * x ∧ b + 2 * c * x ≤ 300) ∧ (-280 ≤ 2 * c * x ∧ 2 * c * x ≤ 280) := by
  have h1 := mul_bd (A := 20) (B := 7) hc hx
  have h2 := mul_bd (a := c * x + b) (A := 160) (B := 7) (by omega) hx
  have h3 := mul_bd (a := 2 * c) (A := 40) (B := 7) (by omega) hx
  refine ⟨?_, by omega, ?_, by omega, by omega⟩
  · simp only [horner]
    rw [whole_right (by omega), if_pos rfl, mul_whole (by omega) (by omega) (by omega), add_whole (by omega) (by omega) (by omega), mul_whole (by omega) (by omega) (by omega), add_whole (by omega) (by omega) (by omega)]
  · have e : slope [ivWhole a, ivWhole b, ivWhole c] = [ivTimes (ivWhole b) 1, ivTimes (ivWhole c) 2] := rfl
    rw [e, times_whole (by omega) (by omega) (by omega), times_whole (by omega) (by omega) (by omega)]
    simp only [horner]
    rw [whole_right (by omega), if_pos rfl, mul_whole (by omega) (by omega) (by omega), add_whole (by omega) (by omega) (by omega)]
    congr 1
    omega
theorem quad_diff (a b c x : Int) : ((c * (x + 1) + b) * (x + 1) + a) - ((c * (x - 1) + b) * (x - 1) + a) = 2 * (b + 2 * c * x) := by
  simp only [Int.mul_add, Int.add_mul, Int.mul_sub, Int.sub_mul, Int.mul_one, ← Int.mul_assoc]
  have : 2 * 2 * c * x = 4 * (c * x) := by rw [Int.mul_assoc]; rfl
  omega
end Go.Proofs.Ytgkkfmjlgmoefaa

