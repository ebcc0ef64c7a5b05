/-
  Words and numbers in plain words: a text's tokens, or its first error and where it is.
-/
import Derived.Test.YthhipepdkpoomaaDoorDecMath
namespace Go.Proofs.YthhipepdkpoomaaDoor
set_option linter.unusedVariables false
open Go.RowKit

/-! ### Bytes -/
def isBl (b : UInt8) : Bool := b == 32 || b == 9
def isLet (b : UInt8) : Bool := decide (97 ≤ b.toNat) && decide (b.toNat ≤ 122) || decide (65 ≤ b.toNat) && decide (b.toNat ≤ 90)
def isW (b : UInt8) : Bool := isLet b || isD b || b == 45 || b == 95
def isNm (b : UInt8) : Bool := isD b || b == 46
def isRm (b : UInt8) : Bool := b != 10

/-- A token: its kind, its text, its place. -/
structure Tk where
  kind : Nat
  text : List UInt8
  line : Nat
  col : Nat
/-- What Tokens answers: the tokens, the error's place, the error. -/
structure Lexed where
  toks : List Tk
  line : Nat
  col : Nat
  err : Nat

/-- Do tokens stand behind the last End? -/
def unended (acc : List Tk) : Bool := match acc.getLast? with | some t => t.kind != 3 | none => false
def endUp (acc : List Tk) (L C : Nat) : List Tk := if unended acc then acc ++ [⟨3, [], L, C⟩] else acc

/-- From a place on: n at least as great as the rest and one more. -/
def lexF : Nat → List UInt8 → Nat → Nat → List Tk → Lexed
  | 0, _, _, _, _ => ⟨[], 0, 0, 0⟩
  | n + 1, r, L, C, acc =>
    match r.dropWhile isBl with
    | [] => ⟨endUp acc L (C + (r.takeWhile isBl).length), 0, 0, 0⟩
    | c :: q =>
      if c = 10 then lexF n q (L + 1) 1 (endUp acc L (C + (r.takeWhile isBl).length))
      else if c = 35 then
        match (c :: q).dropWhile isRm with
        | [] => ⟨endUp acc L (C + (r.takeWhile isBl).length + ((c :: q).takeWhile isRm).length), 0, 0, 0⟩
        | _ :: z => lexF n z (L + 1) 1 (endUp acc L (C + (r.takeWhile isBl).length + ((c :: q).takeWhile isRm).length))
      else if isLet c then
        if ((c :: q).takeWhile isW).length > 20 then ⟨[], L, C + (r.takeWhile isBl).length, 3⟩
        else lexF n ((c :: q).dropWhile isW) L (C + (r.takeWhile isBl).length + ((c :: q).takeWhile isW).length) (acc ++ [⟨1, (c :: q).takeWhile isW, L, C + (r.takeWhile isBl).length⟩])
      else if c = 45 ∨ isD c then
        if (readP (c :: q.takeWhile isNm)).2 then lexF n (q.dropWhile isNm) L (C + (r.takeWhile isBl).length + (1 + (q.takeWhile isNm).length)) (acc ++ [⟨2, c :: q.takeWhile isNm, L, C + (r.takeWhile isBl).length⟩])
        else ⟨[], L, C + (r.takeWhile isBl).length, 2⟩
      else ⟨[], L, C + (r.takeWhile isBl).length, 2⟩

def lexP (s : List UInt8) : Lexed := if s.length > 4000 then ⟨[], 0, 0, 3⟩ else lexF (s.length + 1) s 1 1 []

/-! ### One step, as it is told by what stands there -/
theorem lexF_blank {n : Nat} {b : UInt8} {r : List UInt8} {L C : Nat} {acc : List Tk} (hb : isBl b = true) : lexF (n + 1) (b :: r) L C acc = lexF (n + 1) r L (C + 1) acc := by
  have e1 : (b :: r).dropWhile isBl = r.dropWhile isBl := List.dropWhile_cons_of_pos hb
  have e2 : ((b :: r).takeWhile isBl).length = 1 + (r.takeWhile isBl).length := by rw [List.takeWhile_cons_of_pos hb]; simp; omega
  unfold lexF
  rw [e1, e2]
  simp only [Nat.add_assoc]
theorem lexF_blanks {n : Nat} : ∀ {r : List UInt8} {L C : Nat} {acc : List Tk}, lexF (n + 1) r L C acc = lexF (n + 1) (r.dropWhile isBl) L (C + (r.takeWhile isBl).length) acc
  | [], L, C, acc => rfl
  | b :: r, L, C, acc => by
    cases hb : isBl b with
    | true =>
      rw [lexF_blank hb, lexF_blanks, List.dropWhile_cons_of_pos hb, List.takeWhile_cons_of_pos hb]
      congr 1
      simp only [List.length_cons]
      omega
    | false =>
      have hb' : ¬ isBl b = true := by rw [hb]; simp
      rw [List.dropWhile_cons_of_neg hb', List.takeWhile_cons_of_neg hb']
      rfl
theorem drop_id {p : UInt8 → Bool} {b : UInt8} {r : List UInt8} (h : p b = false) : (b :: r).dropWhile p = b :: r ∧ (b :: r).takeWhile p = [] := by
  have h' : ¬ p b = true := by rw [h]; simp
  exact ⟨List.dropWhile_cons_of_neg h', List.takeWhile_cons_of_neg h'⟩
theorem lexF_nil {n : Nat} {L C : Nat} {acc : List Tk} : lexF (n + 1) [] L C acc = ⟨endUp acc L C, 0, 0, 0⟩ := rfl
theorem lexF_line {n : Nat} {r : List UInt8} {L C : Nat} {acc : List Tk} : lexF (n + 1) (10 :: r) L C acc = lexF n r (L + 1) 1 (endUp acc L C) := rfl
theorem lexF_remark {n : Nat} {r : List UInt8} {L C : Nat} {acc : List Tk} : lexF (n + 1) (35 :: r) L C acc = lexF (n + 1) ((35 :: r).dropWhile isRm) L (C + ((35 :: r).takeWhile isRm).length) acc := by
  have h1 : isBl 35 = false := rfl
  conv => lhs; unfold lexF
  rw [(drop_id h1).1, (drop_id h1).2]
  simp only [show ¬ (35 : UInt8) = 10 by decide, if_false, if_true, List.length_nil, Nat.add_zero]
  cases hz : (35 :: r).dropWhile isRm with
  | nil => rfl
  | cons z q =>
    have hz2 : isRm z = false := by
      have := List.head?_dropWhile_not isRm (35 :: r)
      rw [hz] at this
      simpa using this
    have hz3 : z = 10 := by simpa [isRm] using hz2
    subst hz3
    rfl
theorem lexF_word {n : Nat} {c : UInt8} {q : List UInt8} {L C : Nat} {acc : List Tk} (hc : isLet c = true) :
    lexF (n + 1) (c :: q) L C acc = if ((c :: q).takeWhile isW).length > 20 then ⟨[], L, C, 3⟩
      else lexF n ((c :: q).dropWhile isW) L (C + ((c :: q).takeWhile isW).length) (acc ++ [⟨1, (c :: q).takeWhile isW, L, C⟩]) := by
  have h1 : isBl c = false := by
    apply Bool.eq_false_iff.2
    intro h
    simp only [isBl, Bool.or_eq_true, beq_iff_eq] at h
    rcases h with rfl | rfl <;> exact absurd hc (by decide)
  have h2 : ¬ c = 10 := by rintro rfl; exact absurd hc (by decide)
  have h3 : ¬ c = 35 := by rintro rfl; exact absurd hc (by decide)
  conv => lhs; unfold lexF
  rw [(drop_id h1).1, (drop_id h1).2]
  simp only [h2, h3, hc, if_false, if_true, List.length_nil, Nat.add_zero]
theorem num_facts {c : UInt8} (hc : c = 45 ∨ isD c = true) : isBl c = false ∧ ¬ c = 10 ∧ ¬ c = 35 ∧ isLet c = false := by
  rcases hc with rfl | hc
  · exact ⟨rfl, by decide, by decide, rfl⟩
  · have hd := hc
    simp only [isD, Bool.and_eq_true, decide_eq_true_eq] at hd
    refine ⟨?_, by rintro rfl; exact absurd hc (by decide), by rintro rfl; exact absurd hc (by decide), ?_⟩
    · apply Bool.eq_false_iff.2
      intro h
      simp only [isBl, Bool.or_eq_true, beq_iff_eq] at h
      rcases h with rfl | rfl <;> exact absurd hc (by decide)
    · simp only [isLet, Bool.or_eq_false_iff, Bool.and_eq_false_iff, decide_eq_false_iff_not]
      omega
theorem lexF_number {n : Nat} {c : UInt8} {q : List UInt8} {L C : Nat} {acc : List Tk} (hc : c = 45 ∨ isD c = true) :
    lexF (n + 1) (c :: q) L C acc = if (readP (c :: q.takeWhile isNm)).2 then lexF n (q.dropWhile isNm) L (C + (1 + (q.takeWhile isNm).length)) (acc ++ [⟨2, c :: q.takeWhile isNm, L, C⟩]) else ⟨[], L, C, 2⟩ := by
  obtain ⟨h1, h2, h3, h4⟩ := num_facts hc
  conv => lhs; unfold lexF
  rw [(drop_id h1).1, (drop_id h1).2]
  simp only [h2, h3, h4, hc, if_false, if_true, List.length_nil, Nat.add_zero, Bool.false_eq_true]
theorem lexF_other {n : Nat} {c : UInt8} {q : List UInt8} {L C : Nat} {acc : List Tk} (h1 : isBl c = false) (h2 : ¬ c = 10) (h3 : ¬ c = 35) (h4 : isLet c = false) (h5 : ¬ c = 45) (h6 : isD c = false) :
    lexF (n + 1) (c :: q) L C acc = ⟨[], L, C, 2⟩ := by
  conv => lhs; unfold lexF
  rw [(drop_id h1).1, (drop_id h1).2]
  simp only [h2, h3, h4, h5, h6, if_false, List.length_nil, Nat.add_zero, Bool.false_eq_true, or_self]

/-! ### How long the rest is -/
theorem drop_le (p : UInt8 → Bool) (l : List UInt8) : (l.dropWhile p).length ≤ l.length := (List.dropWhile_suffix p).length_le
theorem take_drop (p : UInt8 → Bool) (l : List UInt8) : (l.takeWhile p).length + (l.dropWhile p).length = l.length := by
  rw [← List.length_append, List.takeWhile_append_dropWhile]
theorem word_drop {c : UInt8} {q : List UInt8} (hc : isLet c = true) : (c :: q).dropWhile isW = q.dropWhile isW ∧ (c :: q).takeWhile isW = c :: q.takeWhile isW := by
  have h : isW c = true := by simp [isW, hc]
  exact ⟨List.dropWhile_cons_of_pos h, List.takeWhile_cons_of_pos h⟩
theorem remark_drop {q : List UInt8} : (35 :: q).dropWhile isRm = q.dropWhile isRm ∧ (35 :: q).takeWhile isRm = 35 :: q.takeWhile isRm :=
  ⟨List.dropWhile_cons_of_pos rfl, List.takeWhile_cons_of_pos rfl⟩

/-- The scan of a class of bytes, byte by byte: what is taken of l's first k. -/
theorem take_stop {p : UInt8 → Bool} {l : List UInt8} {k : Nat} (h1 : (l.take k).all p = true) (h2 : k = l.length ∨ k < l.length ∧ p (l.getD k 0) = false) : l.takeWhile p = l.take k ∧ l.dropWhile p = l.drop k := by
  have e : l = l.take k ++ l.drop k := (List.take_append_drop k l).symm
  have hd : (l.drop k).takeWhile p = [] ∧ (l.drop k).dropWhile p = l.drop k := by
    rcases h2 with h2 | ⟨h2, h3⟩
    · rw [List.drop_of_length_le (by omega)]; exact ⟨rfl, rfl⟩
    · rw [List.drop_eq_getElem_cons h2]
      have : l[k] = l.getD k 0 := by simp [List.getD, h2]
      rw [this]
      exact ⟨(drop_id h3).2, (drop_id h3).1⟩
  have h1' : ∀ a ∈ l.take k, p a = true := by simpa using h1
  refine ⟨?_, ?_⟩
  · conv => lhs; rw [e]
    rw [List.takeWhile_append_of_pos h1', hd.1, List.append_nil]
  · conv => lhs; rw [e]
    rw [List.dropWhile_append_of_pos h1', hd.2]
theorem take_more {p : UInt8 → Bool} {l : List UInt8} {k : Nat} (h1 : (l.take k).all p = true) (hk : k < l.length) (hp : p (l.getD k 0) = true) : (l.take (k + 1)).all p = true := by
  have e : l.take (k + 1) = l.take k ++ [l.getD k 0] := by
    rw [List.take_succ_eq_append_getElem hk, List.getD_eq_getElem?_getD, List.getElem?_eq_getElem hk]
    rfl
  rw [e, List.all_append, h1, List.all_cons, hp]
  rfl

/-! ### The bytes as numbers, as the walk asks -/
def isBlz (n : Int) : Bool := decide (n = 32) || decide (n = 9)
def isLz (n : Int) : Bool := decide (97 ≤ n) && decide (n ≤ 122) || decide (65 ≤ n) && decide (n ≤ 90)
theorem isLz_at (l : List UInt8) (k : Nat) : isLz (byteAt l k) = isLet (l.getD k 0) := by
  unfold isLz isLet byteAt
  generalize (l.getD k 0).toNat = n
  congr 1 <;> congr 1 <;> (rw [decide_eq_decide]; omega)
theorem byte_eq {l : List UInt8} {k m : Nat} (hm : m < 256) : byteAt l k = (m : Int) ↔ l.getD k 0 = UInt8.ofNat m := by
  unfold byteAt
  constructor
  · intro h
    apply UInt8.toNat_inj.1
    rw [UInt8.toNat_ofNat_of_lt' (by omega)]
    omega
  · intro h
    rw [h, UInt8.toNat_ofNat_of_lt' (by omega)]
end Go.Proofs.YthhipepdkpoomaaDoor

