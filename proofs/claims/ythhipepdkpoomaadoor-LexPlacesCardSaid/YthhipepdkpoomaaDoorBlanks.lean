/-
  More blanks, and remarks behind lines: no token's kind and text is another.
-/
import Derived.Test.YthhipepdkpoomaaDoorLexMath
namespace Go.Proofs.YthhipepdkpoomaaDoor
set_option linter.unusedVariables false
open Go.RowKit

def Wd : Nat → List UInt8
  | 0 => [97]
  | 1 => [108, 101, 110, 115]
  | 2 => [45, 50, 46, 53]
  | 3 => [49, 55]
  | 4 => [120, 95, 49]
  | 5 => [102, 108, 105, 110, 116]
  | 6 => [48, 46, 50, 53]
  | _ => [98, 45, 98]
def Kd : Nat → Nat
  | 2 => 2
  | 3 => 2
  | 6 => 2
  | _ => 1
def rem8 : List UInt8 := [9, 35, 32, 49, 32, 97, 32, 33]
/-- What a line, or a word, adds: 8 a line's end. -/
def plainP (x : Nat × Nat) : List UInt8 := if x.1 = 8 then [10] else Wd x.1 ++ [32]
def wideP (x : Nat × Nat) : List UInt8 := if x.1 = 8 then (if x.2 % 2 = 1 then rem8 else []) ++ [10, 10] else List.replicate x.2 32 ++ (Wd x.1 ++ [32, 9])
def kt (t : Tk) : Nat × List UInt8 := (t.kind, t.text)
def ktOf : List (Nat × Nat) → Bool → List (Nat × List UInt8)
  | [], u => if u then [(3, [])] else []
  | x :: r, u => if x.1 = 8 then (if u then [(3, [])] else []) ++ ktOf r false else (Kd x.1, Wd x.1) :: ktOf r true

theorem endUp_kt (acc : List Tk) (L C : Nat) : (endUp acc L C).map kt = acc.map kt ++ (if unended acc then [(3, [])] else []) ∧ unended (endUp acc L C) = false := by
  unfold endUp
  cases h : unended acc with
  | true => rw [if_pos rfl, if_pos rfl]; exact ⟨by simp [kt], by simp [unended]⟩
  | false => rw [if_neg (by simp), if_neg (by simp)]; exact ⟨by simp, h⟩
theorem word_step (k : Nat) (n : Nat) (q : List UInt8) (L C : Nat) (acc : List Tk) : ∃ C', lexF (n + 1) (Wd k ++ 32 :: q) L C acc = lexF n (32 :: q) L C' (acc ++ [⟨Kd k, Wd k, L, C⟩]) := by
  have hw : ∀ (c : UInt8) (w : List UInt8), isLet c = true → (∀ q, (c :: (w ++ 32 :: q)).takeWhile isW = c :: w ∧ (c :: (w ++ 32 :: q)).dropWhile isW = 32 :: q) → w.length ≤ 10 → ∃ C', lexF (n + 1) ((c :: w) ++ 32 :: q) L C acc = lexF n (32 :: q) L C' (acc ++ [⟨1, c :: w, L, C⟩]) := by
    intro c w hc hq hl
    rw [List.cons_append, lexF_word hc, (hq q).1, (hq q).2, if_neg (by simp; omega)]
    exact ⟨_, rfl⟩
  have hm : ∀ (c : UInt8) (w : List UInt8), (c = 45 ∨ isD c = true) → (∀ q, (w ++ 32 :: q).takeWhile isNm = w ∧ (w ++ 32 :: q).dropWhile isNm = 32 :: q) → (readP (c :: w)).2 = true → ∃ C', lexF (n + 1) ((c :: w) ++ 32 :: q) L C acc = lexF n (32 :: q) L C' (acc ++ [⟨2, c :: w, L, C⟩]) := by
    intro c w hc hq hr
    rw [List.cons_append, lexF_number hc, (hq q).1, (hq q).2, if_pos hr]
    exact ⟨_, rfl⟩
  match k with
  | 0 => exact hw 97 [] rfl (fun _ => ⟨rfl, rfl⟩) (by decide)
  | 1 => exact hw 108 [101, 110, 115] rfl (fun _ => ⟨rfl, rfl⟩) (by decide)
  | 2 => exact hm 45 [50, 46, 53] (.inl rfl) (fun _ => ⟨rfl, rfl⟩) (by decide +kernel)
  | 3 => exact hm 49 [55] (.inr rfl) (fun _ => ⟨rfl, rfl⟩) (by decide +kernel)
  | 4 => exact hw 120 [95, 49] rfl (fun _ => ⟨rfl, rfl⟩) (by decide)
  | 5 => exact hw 102 [108, 105, 110, 116] rfl (fun _ => ⟨rfl, rfl⟩) (by decide)
  | 6 => exact hm 48 [46, 50, 53] (.inr rfl) (fun _ => ⟨rfl, rfl⟩) (by decide +kernel)
  | 7 => exact hw 98 [45, 98] rfl (fun _ => ⟨rfl, rfl⟩) (by decide)
  | _ + 8 => exact hw 98 [45, 98] rfl (fun _ => ⟨rfl, rfl⟩) (by decide)
theorem Kd_ne (k : Nat) : (Kd k != 3) = true := by unfold Kd; split <;> rfl
theorem unended_word (acc : List Tk) (k : Nat) (t : List UInt8) (L C : Nat) : unended (acc ++ [⟨Kd k, t, L, C⟩]) = true := by
  simp only [unended, List.getLast?_concat]
  exact Kd_ne k
theorem Wd_len (k : Nat) : 1 ≤ (Wd k).length ∧ (Wd k).length ≤ 5 := by unfold Wd; split <;> exact ⟨by decide, by decide⟩

/-- What comes of a text: no error, these kinds and texts. -/
def Gives (x : Lexed) (l : List (Nat × List UInt8)) : Prop := x.err = 0 ∧ x.line = 0 ∧ x.col = 0 ∧ x.toks.map kt = l
theorem plain_gives : ∀ (xs : List (Nat × Nat)) (n L C : Nat) (acc : List Tk), (xs.flatMap plainP).length < n → Gives (lexF n (xs.flatMap plainP) L C acc) (acc.map kt ++ ktOf xs (unended acc))
  | [], n, L, C, acc, hn => by
    obtain ⟨m, rfl⟩ : ∃ m, n = m + 1 := ⟨n - 1, by simp at hn; omega⟩
    rw [List.flatMap_nil, lexF_nil]
    exact ⟨rfl, rfl, rfl, (endUp_kt acc L C).1⟩
  | x :: xs, n, L, C, acc, hn => by
    rw [List.flatMap_cons] at hn ⊢
    rw [List.length_append] at hn
    obtain ⟨m, rfl⟩ : ∃ m, n = m + 1 := ⟨n - 1, by omega⟩
    unfold plainP at hn ⊢
    unfold ktOf
    by_cases h8 : x.1 = 8
    · rw [if_pos h8] at hn
      rw [if_pos h8, if_pos h8, List.singleton_append, lexF_line]
      have := plain_gives xs m (L + 1) 1 (endUp acc L C) (by simp at hn ⊢; unfold plainP; omega)
      rw [(endUp_kt acc L C).1, (endUp_kt acc L C).2, List.append_assoc] at this
      exact this
    · rw [if_neg h8] at hn
      rw [if_neg h8, if_neg h8, List.append_assoc, List.singleton_append]
      obtain ⟨C', e⟩ := word_step x.1 m (xs.flatMap plainP) L C acc
      have hl := Wd_len x.1
      simp only [List.length_append, List.length_singleton] at hn
      obtain ⟨j, rfl⟩ : ∃ j, m = j + 1 := ⟨m - 1, by omega⟩
      have e2 : (fun x : Nat × Nat => if x.1 = 8 then [10] else Wd x.1 ++ [32]) = plainP := rfl
      rw [e2] at hn ⊢
      rw [e, lexF_blank rfl]
      have := plain_gives xs (j + 1) L (C' + 1) (acc ++ [⟨Kd x.1, Wd x.1, L, C⟩]) (by omega)
      rw [unended_word, List.map_append, List.append_assoc] at this
      exact this
theorem blanks_skip {n : Nat} (r : List UInt8) (L : Nat) (acc : List Tk) : ∀ (g C : Nat), lexF (n + 1) (List.replicate g 32 ++ r) L C acc = lexF (n + 1) r L (C + g) acc
  | 0, C => rfl
  | g + 1, C => by
    rw [List.replicate_succ, List.cons_append, lexF_blank rfl, blanks_skip r L acc g (C + 1)]
    congr 1
    omega
theorem wide_gives : ∀ (xs : List (Nat × Nat)) (n L C : Nat) (acc : List Tk), (xs.flatMap wideP).length < n → Gives (lexF n (xs.flatMap wideP) L C acc) (acc.map kt ++ ktOf xs (unended acc))
  | [], n, L, C, acc, hn => by
    obtain ⟨m, rfl⟩ : ∃ m, n = m + 1 := ⟨n - 1, by simp at hn; omega⟩
    rw [List.flatMap_nil, lexF_nil]
    exact ⟨rfl, rfl, rfl, (endUp_kt acc L C).1⟩
  | x :: xs, n, L, C, acc, hn => by
    rw [List.flatMap_cons] at hn ⊢
    rw [List.length_append] at hn
    obtain ⟨m, rfl⟩ : ∃ m, n = m + 1 := ⟨n - 1, by omega⟩
    have ew : wideP x = if x.1 = 8 then (if x.2 % 2 = 1 then rem8 else []) ++ [10, 10] else List.replicate x.2 32 ++ (Wd x.1 ++ [32, 9]) := rfl
    rw [ew] at hn ⊢
    unfold ktOf
    by_cases h8 : x.1 = 8
    · rw [if_pos h8] at hn
      rw [if_pos h8, if_pos h8, List.append_assoc]
      have key : ∀ D, Gives (lexF (m + 1) ([10, 10] ++ xs.flatMap wideP) L D acc) (acc.map kt ++ ((if unended acc = true then [(3, [])] else []) ++ ktOf xs false)) := by
        intro D
        simp only [List.length_append, List.length_cons, List.length_nil] at hn
        obtain ⟨j, rfl⟩ : ∃ j, m = j + 1 := ⟨m - 1, by omega⟩
        rw [List.cons_append, List.cons_append, List.nil_append, lexF_line, lexF_line]
        have := wide_gives xs j (L + 1 + 1) 1 (endUp (endUp acc L D) (L + 1) 1) (by omega)
        rw [(endUp_kt (endUp acc L D) (L + 1) 1).1, (endUp_kt (endUp acc L D) (L + 1) 1).2, (endUp_kt acc L D).1, (endUp_kt acc L D).2, if_neg (show ¬ (false : Bool) = true by decide), List.append_nil, List.append_assoc] at this
        exact this
      by_cases hg : x.2 % 2 = 1
      · rw [if_pos hg]
        show Gives (lexF (m + 1) (9 :: 35 :: ([32, 49, 32, 97, 32, 33] ++ ([10, 10] ++ xs.flatMap wideP))) L C acc) _
        rw [lexF_blank rfl, lexF_remark]
        exact key _
      · rw [if_neg hg]
        exact key C
    · rw [if_neg h8] at hn
      rw [if_neg h8, if_neg h8, List.append_assoc, blanks_skip, List.append_assoc, List.cons_append, List.cons_append, List.nil_append]
      obtain ⟨C', e⟩ := word_step x.1 m (9 :: xs.flatMap wideP) L (C + x.2) acc
      have hl := Wd_len x.1
      simp only [List.length_append, List.length_cons, List.length_nil, List.length_replicate] at hn
      obtain ⟨j, rfl⟩ : ∃ j, m = j + 1 := ⟨m - 1, by omega⟩
      rw [e, lexF_blank rfl, lexF_blank rfl]
      have := wide_gives xs (j + 1) L (C' + 1 + 1) (acc ++ [⟨Kd x.1, Wd x.1, L, C + x.2⟩]) (by omega)
      rw [unended_word, List.map_append, List.append_assoc] at this
      exact this
theorem plain_len (xs : List (Nat × Nat)) : (xs.flatMap plainP).length ≤ xs.length * 6 := by
  induction xs with
  | nil => simp
  | cons x xs ih =>
    have := Wd_len x.1
    have h : (plainP x).length ≤ 6 := by unfold plainP; split <;> simp; omega
    rw [List.flatMap_cons, List.length_append, List.length_cons, Nat.succ_mul]
    omega
theorem wide_len (xs : List (Nat × Nat)) (hx : ∀ x ∈ xs, x.2 ≤ 4) : (xs.flatMap wideP).length ≤ xs.length * 11 := by
  induction xs with
  | nil => simp
  | cons x xs ih =>
    have := Wd_len x.1
    have hx2 := hx x (by simp)
    have h : (wideP x).length ≤ 11 := by
      unfold wideP
      split
      · split <;> simp [rem8]
      · simp; omega
    have := ih fun y hy => hx y (by simp [hy])
    rw [List.flatMap_cons, List.length_append, List.length_cons, Nat.succ_mul]
    omega
theorem blanks_same (xs : List (Nat × Nat)) (hx : ∀ x ∈ xs, x.2 ≤ 4) (hl : xs.length ≤ 30) : Gives (lexP (xs.flatMap plainP)) (ktOf xs false) ∧ Gives (lexP (xs.flatMap wideP)) (ktOf xs false) := by
  have h1 := plain_len xs
  have h2 := wide_len xs hx
  unfold lexP
  rw [if_neg (by omega), if_neg (by omega)]
  exact ⟨plain_gives xs _ 1 1 [] (by omega), wide_gives xs _ 1 1 [] (by omega)⟩
theorem kt_at {x y : Lexed} {l : List (Nat × List UInt8)} (hx : Gives x l) (hy : Gives y l) : x.toks.length = l.length ∧ y.toks.length = l.length ∧ ∀ (k : Nat) (a b : Tk), x.toks[k]? = some a → y.toks[k]? = some b → a.kind = b.kind ∧ a.text = b.text := by
  obtain ⟨_, _, _, e1⟩ := hx
  obtain ⟨_, _, _, e2⟩ := hy
  refine ⟨by rw [← e1, List.length_map], by rw [← e2, List.length_map], fun k a b ha hb => ?_⟩
  have h1 : (x.toks.map kt)[k]? = some (kt a) := by rw [List.getElem?_map, ha]; rfl
  have h2 : (y.toks.map kt)[k]? = some (kt b) := by rw [List.getElem?_map, hb]; rfl
  rw [e1] at h1
  rw [e2, h1] at h2
  have h3 : kt a = kt b := Option.some.inj h2
  exact ⟨congrArg Prod.fst h3, congrArg Prod.snd h3⟩
theorem kt_len (xs : List (Nat × Nat)) : ∀ u, (ktOf xs u).length ≤ 2 * xs.length + 1 := by
  induction xs with
  | nil => intro u; cases u <;> simp [ktOf]
  | cons x xs ih =>
    intro u
    unfold ktOf
    split
    · have := ih false; cases u <;> simp <;> omega
    · have := ih true; simp; omega
end Go.Proofs.YthhipepdkpoomaaDoor

