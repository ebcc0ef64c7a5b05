/-
  The text of glasses as it is printed, and the tokens that are read from it: plain lists.
  The glasses that are handed in: plain numbers: what a decimal of so many digits behind the point is; a crown, a flint, and some of raw numbers.
  What is read of a text of glasses, and which glasses may be: plain lists.
  A glass's index in a light, its Abbe number, the lines; what the statements of chapter 11 ask of them: plain.
  Tokens end with an End; how long their texts are.
-/
import Derived.Test.YtekhhekkepijoaaGreatDoorGd
import Derived.Test.YtekhhekkepijoaaGreatDoorGb
import Derived.Test.YtekhhekkepijoaaGreatDoorGz5

namespace Go.Proofs.YtekhhekkepijoaaGreatDoor
set_option linter.unusedVariables false
open Go.RowKit

/-! ### A line of words and numbers, a blank between -/
/-- A word or a number as it may stand in a line: its kind, its text. -/
def OkIt (x : Nat × List UInt8) : Prop :=
  (x.1 = 1 ∧ ∃ c w, x.2 = c :: w ∧ isLet c = true ∧ w.all isW = true ∧ w.length ≤ 19) ∨ (x.1 = 2 ∧ ∃ c w, x.2 = c :: w ∧ (c = 45 ∨ isD c = true) ∧ w.all isNm = true ∧ (readP (c :: w)).2 = true)
theorem take_all {p : UInt8 → Bool} {w : List UInt8} {s : UInt8} {q : List UInt8} (hw : w.all p = true) (hs : p s = false) : (w ++ s :: q).takeWhile p = w ∧ (w ++ s :: q).dropWhile p = s :: q := by
  have hw' : ∀ a ∈ w, p a = true := by simpa using hw
  refine ⟨?_, ?_⟩
  · rw [List.takeWhile_append_of_pos hw', (drop_id hs).2, List.append_nil]
  · rw [List.dropWhile_append_of_pos hw', (drop_id hs).1]
theorem it_step {x : Nat × List UInt8} (hx : OkIt x) {s : UInt8} (hs : s = 32 ∨ s = 10) (n : Nat) (q : List UInt8) (L C : Nat) (acc : List Tk) :
    lexF (n + 1) (x.2 ++ s :: q) L C acc = lexF n (s :: q) L (C + x.2.length) (acc ++ [⟨x.1, x.2, L, C⟩]) := by
  have h1 : isW s = false := by rcases hs with rfl | rfl <;> rfl
  have h2 : isNm s = false := by rcases hs with rfl | rfl <;> rfl
  obtain ⟨k, t⟩ := x
  rcases hx with ⟨rfl, c, w, rfl, hc, hw, hl⟩ | ⟨rfl, c, w, rfl, hc, hw, hr⟩
  · obtain ⟨e1, e2⟩ := take_all (q := q) hw h1
    simp only [List.cons_append]
    rw [lexF_word hc, (word_drop hc).1, (word_drop hc).2, e1, e2, if_neg (by rw [List.length_cons]; omega)]
  · obtain ⟨e1, e2⟩ := take_all (q := q) hw h2
    simp only [List.cons_append]
    rw [lexF_number hc, e1, e2, if_pos hr]
    simp only [List.length_cons, Nat.add_comm 1]
theorem it_pos {x : Nat × List UInt8} (hx : OkIt x) : 1 ≤ x.2.length ∧ (x.1 != 3) = true := by
  rcases hx with ⟨h, c, w, e, _⟩ | ⟨h, c, w, e, _⟩ <;> (rw [e, h]; exact ⟨by simp, rfl⟩)
/-! ### A number as it is printed -/
theorem dec_it {d : Dec} (h : decRight d = true) (h5 : headP d ≤ 99999) : OkIt (2, printP d) := by
  have hr := read_print d h h5
  have hd := dig_all (headP d)
  have hp := dig_pos (headP d)
  have nm : ∀ l : List UInt8, l.all isD = true → l.all isNm = true := fun l hl => by
    rw [List.all_eq_true] at hl ⊢
    intro a ha
    simp [isNm, hl a ha]
  have key : ∃ c w, printP d = c :: w ∧ (c = 45 ∨ isD c = true) ∧ w.all isNm = true := by
    have body : ∃ c w, printP d = (if d.c < 0 then [45] else []) ++ (c :: w) ∧ isD c = true ∧ w.all isNm = true := by
      cases hdg : Lib.decDigits (headP d) with
      | nil => rw [hdg] at hp; simp at hp
      | cons c w =>
        rw [hdg] at hd
        simp only [List.all_cons, Bool.and_eq_true] at hd
        have e : ∃ t : List UInt8, t.all isNm = true ∧ printP d = (if d.c < 0 then [45] else []) ++ (Lib.decDigits (headP d) ++ t) := by
          have ht := tail_all d.s.toNat d.c.natAbs
          unfold printP
          rw [if_pos ⟨h, h5⟩]
          by_cases hs : d.s = 0
          · exact ⟨[], rfl, by rw [if_pos hs]⟩
          · exact ⟨46 :: tailL d.c.natAbs d.s.toNat, by rw [List.all_cons, nm _ ht]; rfl, by rw [if_neg hs]⟩
        obtain ⟨t, ht, e⟩ := e
        refine ⟨c, w ++ t, by rw [e, hdg]; rfl, hd.1, ?_⟩
        rw [List.all_append, nm w hd.2, ht]
        rfl
    obtain ⟨c, w, e, hc, hw⟩ := body
    by_cases hm : d.c < 0
    · refine ⟨45, c :: w, by rw [e, if_pos hm]; rfl, .inl rfl, ?_⟩
      rw [List.all_cons, hw]
      simp [isNm, hc]
    · exact ⟨c, w, by rw [e, if_neg hm]; rfl, .inr hc, hw⟩
  obtain ⟨c, w, e, hc, hw⟩ := key
  exact .inr ⟨rfl, c, w, e, hc, hw, by rw [← e, hr]⟩

/-! ### Glasses -/
structure Gl where
  name : List UInt8
  b0 : Dec
  b1 : Dec
  b2 : Dec
  c0 : Dec
  c1 : Dec
  c2 : Dec
def OkDec (d : Dec) : Prop := decRight d = true ∧ headP d ≤ 99999
def OkName (t : List UInt8) : Prop := ∃ c w, t = c :: w ∧ isLet c = true ∧ w.all isW = true ∧ w.length ≤ 19
def OkGl (g : Gl) : Prop := OkName g.name ∧ OkDec g.b0 ∧ OkDec g.b1 ∧ OkDec g.b2 ∧ OkDec g.c0 ∧ OkDec g.c1 ∧ OkDec g.c2
end Go.Proofs.YtekhhekkepijoaaGreatDoor

namespace Go.Proofs.YtekhhekkepijoaaGreatDoor
set_option linter.unusedVariables false
open Go.RowKit

/-- A decimal out of a number and its digits behind the point: zeros at its end away. -/
def decH : Int → Nat → Dec
  | c, 0 => ⟨c, 0⟩
  | c, s + 1 => if c.tmod 10 = 0 then decH (c.tdiv 10) s else ⟨c, (s + 1 : Nat)⟩
theorem tdiv10_bd {c : Int} {M : Int} (h : -M ≤ c ∧ c ≤ M) : -M ≤ c.tdiv 10 ∧ c.tdiv 10 ≤ M := by
  have h0 : 0 ≤ M := by omega
  have := Int.natAbs_tdiv c 10
  have h2 : (c.tdiv 10).natAbs ≤ c.natAbs := by rw [this]; exact Nat.div_le_self _ _
  omega
theorem decH_right : ∀ (s : Nat) (c : Int), s ≤ 6 → -100000000000 ≤ c ∧ c ≤ 100000000000 → decRight (decH c s) = true
  | 0, c, _, h => decRight_mk h.1 h.2 (by omega) (by omega) (.inl rfl)
  | s + 1, c, hs, h => by
    unfold decH
    split
    · exact decH_right s _ (by omega) (tdiv10_bd h)
    · rename_i hn
      exact decRight_mk h.1 h.2 (by omega) (by omega) (.inr hn)
theorem decH_head : ∀ (s : Nat) (c : Int), headP (decH c s) = c.natAbs / 10 ^ s
  | 0, c => by simp [decH, headP]
  | s + 1, c => by
    unfold decH
    split
    · rw [decH_head s, Int.natAbs_tdiv, Nat.pow_succ, Nat.mul_comm, ← Nat.div_div_eq_div_mul]
      rfl
    · simp [headP]
theorem decH_ok {s : Nat} {c : Int} (hs : s ≤ 6) (h : -100000000000 ≤ c ∧ c ≤ 100000000000) (h5 : c.natAbs / 10 ^ s ≤ 99999) : OkDec (decH c s) := ⟨decH_right s c hs h, by rw [decH_head]; exact h5⟩

def crownG : Gl := ⟨[99, 114, 111, 119, 110], decH 103961 5, decH 23179 5, decH 101047 5, decH 600 5, decH 2002 5, decH 1035607 4⟩
def flintG : Gl := ⟨[102, 108, 105, 110, 116], decH 173760 5, decH 31375 5, decH 189878 5, decH 1319 5, decH 6231 5, decH 1552363 4⟩
def rawG (i : Nat) (n : Int) : Gl := ⟨103 :: Lib.decDigits i, decH (n % 200000) 5, decH (n.tdiv 7 % 50000) 5, ⟨0, 0⟩, decH (n.tdiv 11 % 3000) 5, decH (n.tdiv 13 % 9000) 5, decH (n.tdiv 17 % 200000 - 1000) 3⟩
/-- Of the first k of l. -/
def rawsG (l : List Int) (k : Nat) : List Gl := (List.range k).map fun i => rawG i (l.getD i 0)
def glassesG (l : List Int) : List Gl := crownG :: flintG :: rawsG l (min l.length 3)
theorem rawsG_succ (l : List Int) (k : Nat) : rawsG l (k + 1) = rawsG l k ++ [rawG k (l.getD k 0)] := by simp [rawsG, List.range_succ]
theorem rawsG_len (l : List Int) (k : Nat) : (rawsG l k).length = k := by simp [rawsG]
theorem isD_W {b : UInt8} (h : isD b = true) : isW b = true := by simp [isW, h]
theorem crown_ok : OkGl crownG := ⟨⟨99, [114, 111, 119, 110], rfl, rfl, rfl, by decide⟩, decH_ok (by omega) (by omega) (by decide), decH_ok (by omega) (by omega) (by decide), decH_ok (by omega) (by omega) (by decide), decH_ok (by omega) (by omega) (by decide), decH_ok (by omega) (by omega) (by decide), decH_ok (by omega) (by omega) (by decide)⟩
theorem flint_ok : OkGl flintG := ⟨⟨102, [108, 105, 110, 116], rfl, rfl, rfl, by decide⟩, decH_ok (by omega) (by omega) (by decide), decH_ok (by omega) (by omega) (by decide), decH_ok (by omega) (by omega) (by decide), decH_ok (by omega) (by omega) (by decide), decH_ok (by omega) (by omega) (by decide), decH_ok (by omega) (by omega) (by decide)⟩
theorem raw_ok (i : Nat) (n : Int) (hi : i < 10) : OkGl (rawG i n) := by
  have e : ∀ (m k : Int), 0 < k → 0 ≤ m % k ∧ m % k < k := fun m k h => ⟨Int.emod_nonneg _ (by omega), Int.emod_lt_of_pos _ h⟩
  have h1 := e n 200000 (by omega)
  have h2 := e (n.tdiv 7) 50000 (by omega)
  have h3 := e (n.tdiv 11) 3000 (by omega)
  have h4 := e (n.tdiv 13) 9000 (by omega)
  have h5 := e (n.tdiv 17) 200000 (by omega)
  have sm : ∀ (c : Int) (s : Nat), -1000000 ≤ c ∧ c ≤ 1000000 → 3 ≤ s → c.natAbs / 10 ^ s ≤ 99999 := fun c s h hs => by
    have : 10 ^ 3 ≤ 10 ^ s := Nat.pow_le_pow_right (by decide) hs
    exact Nat.le_trans (Nat.div_le_div_left this (by decide)) (by omega)
  refine ⟨⟨103, Lib.decDigits i, rfl, rfl, ?_, ?_⟩, decH_ok (by omega) (by omega) (sm _ _ (by omega) (by omega)), decH_ok (by omega) (by omega) (sm _ _ (by omega) (by omega)), (show OkDec ⟨0, 0⟩ from ⟨rfl, by decide⟩), decH_ok (by omega) (by omega) (sm _ _ (by omega) (by omega)), decH_ok (by omega) (by omega) (sm _ _ (by omega) (by omega)), decH_ok (by omega) (by omega) (sm _ _ (by omega) (by omega))⟩
  · have := dig_all i
    rw [List.all_eq_true] at this ⊢
    exact fun b hb => isD_W (this b hb)
  · have := dig_len 0 i (by omega)
    omega
theorem glassesG_ok (l : List Int) : ∀ g ∈ glassesG l, OkGl g := by
  intro g hg
  unfold glassesG at hg
  rcases List.mem_cons.1 hg with rfl | hg
  · exact crown_ok
  rcases List.mem_cons.1 hg with rfl | hg
  · exact flint_ok
  unfold rawsG at hg
  obtain ⟨i, hi, rfl⟩ := List.mem_map.1 hg
  exact raw_ok i _ (by have := List.mem_range.1 hi; omega)
theorem printP_len14 (d : Dec) : (printP d).length ≤ 13 := by
  unfold printP
  split
  · rename_i h
    obtain ⟨⟨h1, h2⟩, h3, h4, h5⟩ := decRight_bd (c := d.c) (s := d.s) h.1
    have hl := (dig_len5 (headP d)).2 h.2
    have ht := tail_len d.s.toNat d.c.natAbs
    split <;> split <;> simp only [List.length_append, List.length_cons, List.length_nil] <;> omega
  · simp
end Go.Proofs.YtekhhekkepijoaaGreatDoor

namespace Go.Proofs.YtekhhekkepijoaaGreatDoor
set_option linter.unusedVariables false
open Go.RowKit

def airT : List UInt8 := [97, 105, 114]
def hasName (t : List UInt8) (l : List Gl) : Bool := l.any fun g => g.name == t
theorem unended_drop {ts : List Tk} (hu : unended ts = false) (n : Nat) : unended (ts.drop n) = false := by
  by_cases h : ts.length ≤ n
  · rw [List.drop_of_length_le h]
    rfl
  · unfold unended at *
    have e : (ts.drop n).getLast? = ts.getLast? := by
      rw [List.getLast?_drop, if_neg h]
    rw [e]
    exact hu
/-! ### Glasses that are printed are read the same -/
theorem read_dec1 {d : Dec} (h : OkDec d) : (readP (printP d)).1 = d := by rw [read_print d h.1 h.2]
/-! ### Which may be -/
end Go.Proofs.YtekhhekkepijoaaGreatDoor

namespace Go.Proofs.YtekhhekkepijoaaGreatDoor
set_option linter.unusedVariables false
open Go.RowKit

def ixG (g : Gl) (w : Iv) : Iv := if g.name = airT then ivPoint 65536 else ixOf (ivSqr w) (decIv g.b0) (decIv g.c0) (decIv g.b1) (decIv g.c1) (decIv g.b2) (decIv g.c2)
def lineP (k : Int) : Iv := if k = 0 then decIv ⟨5876, 4⟩ else if k = 1 then decIv ⟨4861, 4⟩ else if k = 2 then decIv ⟨6563, 4⟩ else ivNone
/-- So many tenths. -/
theorem decIv_tenths (b : Int) (h0 : 0 ≤ b) (h1 : b ≤ 1000) : decIv (decH b 1) = ⟨b * 65536 / 10, -((-(b * 65536)) / 10), false⟩ ∧ decRight (decH b 1) = true := by
  have hr := decH_right 1 b (by omega) (by omega)
  refine ⟨?_, hr⟩
  unfold decIv
  rw [if_pos hr]
  unfold decH
  have e : b.tmod 10 = b % 10 := by rw [Int.tmod_eq_emod_of_nonneg h0]
  rw [e]
  split
  · rename_i hz
    have e2 : b.tdiv 10 = b / 10 := by rw [Int.tdiv_eq_ediv_of_nonneg h0]
    have e3 : p10 0 = 1 := rfl
    show ivOf ((b.tdiv 10 * 65536).fdiv (p10 0)) (-((-(b.tdiv 10 * 65536)).fdiv (p10 0))) = _
    rw [e2, e3, Int.fdiv_eq_ediv_of_nonneg _ (by omega), Int.fdiv_eq_ediv_of_nonneg _ (by omega), Int.ediv_one, Int.ediv_one, of_yes (by omega)]
    rw [Iv.mk.injEq]
    refine ⟨by omega, by omega, rfl⟩
  · have e3 : p10 1 = 10 := rfl
    show ivOf ((b * 65536).fdiv (p10 1)) (-((-(b * 65536)).fdiv (p10 1))) = _
    rw [e3, Int.fdiv_eq_ediv_of_nonneg _ (by omega), Int.fdiv_eq_ediv_of_nonneg _ (by omega), of_yes (by omega)]
end Go.Proofs.YtekhhekkepijoaaGreatDoor

namespace Go.Proofs.YtekhhekkepijoaaGreatDoor
set_option linter.unusedVariables false
open Go.RowKit

theorem endUp_ends (acc : List Tk) (L C : Nat) : unended (endUp acc L C) = false := by
  unfold endUp
  split
  · unfold unended
    simp
  · rename_i h
    simpa using h
theorem endUp_text {acc : List Tk} {L C M : Nat} (h : ∀ t ∈ acc, t.text.length ≤ M) : ∀ t ∈ endUp acc L C, t.text.length ≤ M := endUp_all h (by simp)
theorem lexF_ends : ∀ (n : Nat) (r : List UInt8) (L C M : Nat) (acc : List Tk), r.length ≤ M → (∀ t ∈ acc, t.text.length ≤ M) → unended (lexF n r L C acc).toks = false ∧ ∀ t ∈ (lexF n r L C acc).toks, t.text.length ≤ M
  | 0, _, _, _, _, _, _, _ => by simp [lexF, unended]
  | n + 1, r, L, C, M, acc, hr, ha => by
    rw [lexF_blanks]
    have h1 := take_drop isBl r
    generalize C + (r.takeWhile isBl).length = D
    cases hd : r.dropWhile isBl with
    | nil =>
      rw [lexF_nil]
      exact ⟨endUp_ends _ _ _, endUp_text ha⟩
    | cons c q =>
      rw [hd, List.length_cons] at h1
      by_cases c10 : c = 10
      · subst c10
        rw [lexF_line]
        exact lexF_ends n q (L + 1) 1 M _ (by omega) (endUp_text ha)
      by_cases c35 : c = 35
      · subst c35
        rw [lexF_remark]
        have h2 := take_drop isRm (35 :: q)
        rw [List.length_cons] at h2
        generalize D + ((35 :: q).takeWhile isRm).length = D2
        cases hz : (35 :: q).dropWhile isRm with
        | nil =>
          rw [lexF_nil]
          exact ⟨endUp_ends _ _ _, endUp_text ha⟩
        | cons z y =>
          have hz2 : isRm z = false := by
            have := List.head?_dropWhile_not isRm (35 :: q)
            rw [hz] at this
            simpa using this
          have hz3 : z = 10 := by simpa [isRm] using hz2
          subst hz3
          rw [hz, List.length_cons] at h2
          rw [lexF_line]
          exact lexF_ends n y (L + 1) 1 M _ (by omega) (endUp_text ha)
      cases hc : isLet c with
      | true =>
        rw [lexF_word hc]
        have h2 := take_drop isW (c :: q)
        rw [List.length_cons] at h2
        split
        · simp [unended]
        · exact lexF_ends n _ L _ M _ (by omega) (snoc_all ha (by show ((c :: q).takeWhile isW).length ≤ M; omega))
      | false =>
        by_cases hn : c = 45 ∨ isD c = true
        · rw [lexF_number hn]
          have h2 := take_drop isNm q
          split
          · exact lexF_ends n _ L _ M _ (by omega) (snoc_all ha (by show (c :: q.takeWhile isNm).length ≤ M; rw [List.length_cons]; omega))
          · simp [unended]
        · have hb : isBl c = false := by
            have := List.head?_dropWhile_not isBl r
            rw [hd] at this
            simpa using this
          rw [lexF_other hb c10 c35 hc (fun h => hn (.inl h)) (by apply Bool.eq_false_iff.2; exact fun h => hn (.inr h))]
          simp [unended]
theorem lexP_ends (s : List UInt8) : unended (lexP s).toks = false ∧ ∀ t ∈ (lexP s).toks, t.text.length ≤ 4000 := by
  unfold lexP
  split
  · simp [unended]
  · exact lexF_ends _ _ _ _ _ _ (by omega) (by simp)

end Go.Proofs.YtekhhekkepijoaaGreatDoor
