/-
  The text of glasses as it is printed, and the tokens that are read from it: plain lists.
  The glasses that are handed in: plain numbers: what a decimal of so many digits behind the point is; a crown, a flint, and some of raw numbers.
  What is read of a text of glasses, and which glasses may be: plain lists.
  Tokens end with an End; how long their texts are.
  A glass's index in a light, its Abbe number, the lines; what the statements of chapter 11 ask of them: plain.
-/
import Derived.Test.YtgikjbmaahblpaaGreatDoorGd
import Derived.Test.YtgikjbmaahblpaaGreatDoorGb
import Derived.Test.YtgikjbmaahblpaaGreatDoorDec2

namespace Go.Proofs.YtgikjbmaahblpaaGreatDoor
set_option linter.unusedVariables false
open Go.RowKit

/-! ### A line of words and numbers, a blank between -/
/-- A word or a number as it may stand in a line: its kind, its text. -/
def OkIt (x : Nat × List UInt8) : Prop :=
  (x.1 = 1 ∧ ∃ c w, x.2 = c :: w ∧ isLet c = true ∧ w.all isW = true ∧ w.length ≤ 19) ∨ (x.1 = 2 ∧ ∃ c w, x.2 = c :: w ∧ (c = 45 ∨ isD c = true) ∧ w.all isNm = true ∧ (readP (c :: w)).2 = true)
theorem take_all {p : UInt8 → Bool} {w : List UInt8} {s : UInt8} {q : List UInt8} (hw : w.all p = true) (hs : p s = false) : (w ++ s :: q).takeWhile p = w ∧ (w ++ s :: q).dropWhile p = s :: q := by
  have hw' : ∀ a ∈ w, p a = true := by simpa using hw
  refine ⟨?_, ?_⟩
  · rw [List.takeWhile_append_of_pos hw', (drop_id hs).2, List.append_nil]
  · rw [List.dropWhile_append_of_pos hw', (drop_id hs).1]
theorem it_step {x : Nat × List UInt8} (hx : OkIt x) {s : UInt8} (hs : s = 32 ∨ s = 10) (n : Nat) (q : List UInt8) (L C : Nat) (acc : List Tk) :
    lexF (n + 1) (x.2 ++ s :: q) L C acc = lexF n (s :: q) L (C + x.2.length) (acc ++ [⟨x.1, x.2, L, C⟩]) := by
  have h1 : isW s = false := by rcases hs with rfl | rfl <;> rfl
  have h2 : isNm s = false := by rcases hs with rfl | rfl <;> rfl
  obtain ⟨k, t⟩ := x
  rcases hx with ⟨rfl, c, w, rfl, hc, hw, hl⟩ | ⟨rfl, c, w, rfl, hc, hw, hr⟩
  · obtain ⟨e1, e2⟩ := take_all (q := q) hw h1
    simp only [List.cons_append]
    rw [lexF_word hc, (word_drop hc).1, (word_drop hc).2, e1, e2, if_neg (by rw [List.length_cons]; omega)]
  · obtain ⟨e1, e2⟩ := take_all (q := q) hw h2
    simp only [List.cons_append]
    rw [lexF_number hc, e1, e2, if_pos hr]
    simp only [List.length_cons, Nat.add_comm 1]
theorem it_pos {x : Nat × List UInt8} (hx : OkIt x) : 1 ≤ x.2.length ∧ (x.1 != 3) = true := by
  rcases hx with ⟨h, c, w, e, _⟩ | ⟨h, c, w, e, _⟩ <;> (rw [e, h]; exact ⟨by simp, rfl⟩)
def lineT (x : Nat × List UInt8) : List (Nat × List UInt8) → List UInt8
  | [] => x.2 ++ [10]
  | y :: r => x.2 ++ 32 :: lineT y r
def lineK (L C : Nat) (x : Nat × List UInt8) : List (Nat × List UInt8) → List Tk
  | [] => [⟨x.1, x.2, L, C⟩, ⟨3, [], L, C + x.2.length⟩]
  | y :: r => ⟨x.1, x.2, L, C⟩ :: lineK L (C + x.2.length + 1) y r
theorem line_lex : ∀ (r : List (Nat × List UInt8)) (x : Nat × List UInt8), OkIt x → (∀ y ∈ r, OkIt y) → ∀ (n : Nat) (q : List UInt8) (L C : Nat) (acc : List Tk), (lineT x r ++ q).length < n →
    ∃ n', q.length < n' ∧ lexF n (lineT x r ++ q) L C acc = lexF n' q (L + 1) 1 (acc ++ lineK L C x r)
  | [], x, hx, _, n, q, L, C, acc, hn => by
    have hp := it_pos hx
    unfold lineT at hn ⊢
    simp only [List.length_append, List.length_singleton] at hn
    obtain ⟨j, rfl⟩ : ∃ j, n = j + 1 + 1 := ⟨n - 2, by omega⟩
    refine ⟨j, by omega, ?_⟩
    rw [List.append_assoc, List.singleton_append, it_step hx (.inr rfl), lexF_line]
    have hu : unended (acc ++ [⟨x.1, x.2, L, C⟩]) = true := by simpa [unended] using hp.2
    unfold endUp
    rw [if_pos hu, List.append_assoc]
    rfl
  | y :: r, x, hx, hr, n, q, L, C, acc, hn => by
    have hp := it_pos hx
    unfold lineT at hn ⊢
    simp only [List.length_append, List.length_cons] at hn
    obtain ⟨j, rfl⟩ : ∃ j, n = j + 1 + 1 := ⟨n - 2, by omega⟩
    rw [List.append_assoc, List.cons_append, it_step hx (.inl rfl), lexF_blank rfl]
    obtain ⟨n', h1, h2⟩ := line_lex r y (hr y (by simp)) (fun z hz => hr z (by simp [hz])) (j + 1) q L (C + x.2.length + 1) (acc ++ [⟨x.1, x.2, L, C⟩]) (by rw [List.length_append]; omega)
    exact ⟨n', h1, by rw [h2, List.append_assoc]; rfl⟩
theorem lineK_ends (L C : Nat) (x : Nat × List UInt8) (r : List (Nat × List UInt8)) (acc : List Tk) : unended (acc ++ lineK L C x r) = false := by
  induction r generalizing x C acc with
  | nil => simp [unended, lineK]
  | cons y r ih =>
    unfold lineK
    rw [List.append_cons]
    exact ih _ _ _

/-! ### A number as it is printed -/
theorem dec_it {d : Dec} (h : decRight d = true) (h5 : headP d ≤ 99999) : OkIt (2, printP d) := by
  have hr := read_print d h h5
  have hd := dig_all (headP d)
  have hp := dig_pos (headP d)
  have nm : ∀ l : List UInt8, l.all isD = true → l.all isNm = true := fun l hl => by
    rw [List.all_eq_true] at hl ⊢
    intro a ha
    simp [isNm, hl a ha]
  have key : ∃ c w, printP d = c :: w ∧ (c = 45 ∨ isD c = true) ∧ w.all isNm = true := by
    have body : ∃ c w, printP d = (if d.c < 0 then [45] else []) ++ (c :: w) ∧ isD c = true ∧ w.all isNm = true := by
      cases hdg : Lib.decDigits (headP d) with
      | nil => rw [hdg] at hp; simp at hp
      | cons c w =>
        rw [hdg] at hd
        simp only [List.all_cons, Bool.and_eq_true] at hd
        have e : ∃ t : List UInt8, t.all isNm = true ∧ printP d = (if d.c < 0 then [45] else []) ++ (Lib.decDigits (headP d) ++ t) := by
          have ht := tail_all d.s.toNat d.c.natAbs
          unfold printP
          rw [if_pos ⟨h, h5⟩]
          by_cases hs : d.s = 0
          · exact ⟨[], rfl, by rw [if_pos hs]⟩
          · exact ⟨46 :: tailL d.c.natAbs d.s.toNat, by rw [List.all_cons, nm _ ht]; rfl, by rw [if_neg hs]⟩
        obtain ⟨t, ht, e⟩ := e
        refine ⟨c, w ++ t, by rw [e, hdg]; rfl, hd.1, ?_⟩
        rw [List.all_append, nm w hd.2, ht]
        rfl
    obtain ⟨c, w, e, hc, hw⟩ := body
    by_cases hm : d.c < 0
    · refine ⟨45, c :: w, by rw [e, if_pos hm]; rfl, .inl rfl, ?_⟩
      rw [List.all_cons, hw]
      simp [isNm, hc]
    · exact ⟨c, w, by rw [e, if_neg hm]; rfl, .inr hc, hw⟩
  obtain ⟨c, w, e, hc, hw⟩ := key
  exact .inr ⟨rfl, c, w, e, hc, hw, by rw [← e, hr]⟩

/-! ### Glasses -/
structure Gl where
  name : List UInt8
  b0 : Dec
  b1 : Dec
  b2 : Dec
  c0 : Dec
  c1 : Dec
  c2 : Dec
def OkDec (d : Dec) : Prop := decRight d = true ∧ headP d ≤ 99999
def OkName (t : List UInt8) : Prop := ∃ c w, t = c :: w ∧ isLet c = true ∧ w.all isW = true ∧ w.length ≤ 19
def OkGl (g : Gl) : Prop := OkName g.name ∧ OkDec g.b0 ∧ OkDec g.b1 ∧ OkDec g.b2 ∧ OkDec g.c0 ∧ OkDec g.c1 ∧ OkDec g.c2
def glWord : Nat × List UInt8 := (1, [103, 108, 97, 115, 115])
def glRest (g : Gl) : List (Nat × List UInt8) := [(1, g.name), (2, printP g.b0), (2, printP g.c0), (2, printP g.b1), (2, printP g.c1), (2, printP g.b2), (2, printP g.c2)]
def textG (l : List Gl) : List UInt8 := l.flatMap fun g => lineT glWord (glRest g)
def toksG : Nat → List Gl → List Tk
  | _, [] => []
  | L, g :: r => lineK L 1 glWord (glRest g) ++ toksG (L + 1) r
theorem glWord_ok : OkIt glWord := .inl ⟨rfl, 103, [108, 97, 115, 115], rfl, rfl, rfl, by decide⟩
theorem glRest_ok {g : Gl} (h : OkGl g) : ∀ y ∈ glRest g, OkIt y := by
  obtain ⟨⟨c, w, e, hc, hw, hl⟩, h0, h1, h2, h3, h4, h5⟩ := h
  intro y hy
  simp only [glRest, List.mem_cons, List.not_mem_nil, or_false] at hy
  rcases hy with rfl | rfl | rfl | rfl | rfl | rfl | rfl
  · exact .inl ⟨rfl, c, w, e, hc, hw, hl⟩
  all_goals first | exact dec_it h0.1 h0.2 | exact dec_it h1.1 h1.2 | exact dec_it h2.1 h2.2 | exact dec_it h3.1 h3.2 | exact dec_it h4.1 h4.2 | exact dec_it h5.1 h5.2
theorem glasses_lex : ∀ (l : List Gl), (∀ g ∈ l, OkGl g) → ∀ (n L : Nat) (acc : List Tk), (textG l).length < n → unended acc = false → lexF n (textG l) L 1 acc = ⟨acc ++ toksG L l, 0, 0, 0⟩
  | [], _, n, L, acc, hn, hu => by
    obtain ⟨m, rfl⟩ : ∃ m, n = m + 1 := ⟨n - 1, by omega⟩
    show lexF (m + 1) [] L 1 acc = _
    rw [lexF_nil]
    unfold endUp
    rw [if_neg (by rw [hu]; simp)]
    simp [toksG]
  | g :: r, hg, n, L, acc, hn, hu => by
    have e : textG (g :: r) = lineT glWord (glRest g) ++ textG r := List.flatMap_cons
    rw [e] at hn ⊢
    obtain ⟨n', h1, h2⟩ := line_lex (glRest g) glWord glWord_ok (glRest_ok (hg g (by simp))) n (textG r) L 1 acc hn
    rw [h2, glasses_lex r (fun x hx => hg x (by simp [hx])) n' (L + 1) _ h1 (lineK_ends _ _ _ _ _), List.append_assoc]
    rfl
theorem glasses_read (l : List Gl) (hl : ∀ g ∈ l, OkGl g) (hn : (textG l).length ≤ 4000) : lexP (textG l) = ⟨toksG 1 l, 0, 0, 0⟩ := by
  unfold lexP
  rw [if_neg (by omega), glasses_lex l hl _ 1 [] (by omega) rfl]
  rfl
end Go.Proofs.YtgikjbmaahblpaaGreatDoor

namespace Go.Proofs.YtgikjbmaahblpaaGreatDoor
set_option linter.unusedVariables false
open Go.RowKit

/-- A decimal out of a number and its digits behind the point: zeros at its end away. -/
def decH : Int → Nat → Dec
  | c, 0 => ⟨c, 0⟩
  | c, s + 1 => if c.tmod 10 = 0 then decH (c.tdiv 10) s else ⟨c, (s + 1 : Nat)⟩
theorem tdiv10_bd {c : Int} {M : Int} (h : -M ≤ c ∧ c ≤ M) : -M ≤ c.tdiv 10 ∧ c.tdiv 10 ≤ M := by
  have h0 : 0 ≤ M := by omega
  have := Int.natAbs_tdiv c 10
  have h2 : (c.tdiv 10).natAbs ≤ c.natAbs := by rw [this]; exact Nat.div_le_self _ _
  omega
theorem decH_right : ∀ (s : Nat) (c : Int), s ≤ 6 → -100000000000 ≤ c ∧ c ≤ 100000000000 → decRight (decH c s) = true
  | 0, c, _, h => decRight_mk h.1 h.2 (by omega) (by omega) (.inl rfl)
  | s + 1, c, hs, h => by
    unfold decH
    split
    · exact decH_right s _ (by omega) (tdiv10_bd h)
    · rename_i hn
      exact decRight_mk h.1 h.2 (by omega) (by omega) (.inr hn)
theorem decH_head : ∀ (s : Nat) (c : Int), headP (decH c s) = c.natAbs / 10 ^ s
  | 0, c => by simp [decH, headP]
  | s + 1, c => by
    unfold decH
    split
    · rw [decH_head s, Int.natAbs_tdiv, Nat.pow_succ, Nat.mul_comm, ← Nat.div_div_eq_div_mul]
      rfl
    · simp [headP]
theorem decH_ok {s : Nat} {c : Int} (hs : s ≤ 6) (h : -100000000000 ≤ c ∧ c ≤ 100000000000) (h5 : c.natAbs / 10 ^ s ≤ 99999) : OkDec (decH c s) := ⟨decH_right s c hs h, by rw [decH_head]; exact h5⟩

def crownG : Gl := ⟨[99, 114, 111, 119, 110], decH 103961 5, decH 23179 5, decH 101047 5, decH 600 5, decH 2002 5, decH 1035607 4⟩
def flintG : Gl := ⟨[102, 108, 105, 110, 116], decH 173760 5, decH 31375 5, decH 189878 5, decH 1319 5, decH 6231 5, decH 1552363 4⟩
def rawG (i : Nat) (n : Int) : Gl := ⟨103 :: Lib.decDigits i, decH (n % 200000) 5, decH (n.tdiv 7 % 50000) 5, ⟨0, 0⟩, decH (n.tdiv 11 % 3000) 5, decH (n.tdiv 13 % 9000) 5, decH (n.tdiv 17 % 200000 - 1000) 3⟩
/-- Of the first k of l. -/
def rawsG (l : List Int) (k : Nat) : List Gl := (List.range k).map fun i => rawG i (l.getD i 0)
def glassesG (l : List Int) : List Gl := crownG :: flintG :: rawsG l (min l.length 3)
theorem rawsG_succ (l : List Int) (k : Nat) : rawsG l (k + 1) = rawsG l k ++ [rawG k (l.getD k 0)] := by simp [rawsG, List.range_succ]
theorem rawsG_len (l : List Int) (k : Nat) : (rawsG l k).length = k := by simp [rawsG]
theorem isD_W {b : UInt8} (h : isD b = true) : isW b = true := by simp [isW, h]
theorem crown_ok : OkGl crownG := ⟨⟨99, [114, 111, 119, 110], rfl, rfl, rfl, by decide⟩, decH_ok (by omega) (by omega) (by decide), decH_ok (by omega) (by omega) (by decide), decH_ok (by omega) (by omega) (by decide), decH_ok (by omega) (by omega) (by decide), decH_ok (by omega) (by omega) (by decide), decH_ok (by omega) (by omega) (by decide)⟩
theorem flint_ok : OkGl flintG := ⟨⟨102, [108, 105, 110, 116], rfl, rfl, rfl, by decide⟩, decH_ok (by omega) (by omega) (by decide), decH_ok (by omega) (by omega) (by decide), decH_ok (by omega) (by omega) (by decide), decH_ok (by omega) (by omega) (by decide), decH_ok (by omega) (by omega) (by decide), decH_ok (by omega) (by omega) (by decide)⟩
theorem raw_ok (i : Nat) (n : Int) (hi : i < 10) : OkGl (rawG i n) := by
  have e : ∀ (m k : Int), 0 < k → 0 ≤ m % k ∧ m % k < k := fun m k h => ⟨Int.emod_nonneg _ (by omega), Int.emod_lt_of_pos _ h⟩
  have h1 := e n 200000 (by omega)
  have h2 := e (n.tdiv 7) 50000 (by omega)
  have h3 := e (n.tdiv 11) 3000 (by omega)
  have h4 := e (n.tdiv 13) 9000 (by omega)
  have h5 := e (n.tdiv 17) 200000 (by omega)
  have sm : ∀ (c : Int) (s : Nat), -1000000 ≤ c ∧ c ≤ 1000000 → 3 ≤ s → c.natAbs / 10 ^ s ≤ 99999 := fun c s h hs => by
    have : 10 ^ 3 ≤ 10 ^ s := Nat.pow_le_pow_right (by decide) hs
    exact Nat.le_trans (Nat.div_le_div_left this (by decide)) (by omega)
  refine ⟨⟨103, Lib.decDigits i, rfl, rfl, ?_, ?_⟩, decH_ok (by omega) (by omega) (sm _ _ (by omega) (by omega)), decH_ok (by omega) (by omega) (sm _ _ (by omega) (by omega)), (show OkDec ⟨0, 0⟩ from ⟨rfl, by decide⟩), decH_ok (by omega) (by omega) (sm _ _ (by omega) (by omega)), decH_ok (by omega) (by omega) (sm _ _ (by omega) (by omega)), decH_ok (by omega) (by omega) (sm _ _ (by omega) (by omega))⟩
  · have := dig_all i
    rw [List.all_eq_true] at this ⊢
    exact fun b hb => isD_W (this b hb)
  · have := dig_len 0 i (by omega)
    omega
theorem glassesG_ok (l : List Int) : ∀ g ∈ glassesG l, OkGl g := by
  intro g hg
  unfold glassesG at hg
  rcases List.mem_cons.1 hg with rfl | hg
  · exact crown_ok
  rcases List.mem_cons.1 hg with rfl | hg
  · exact flint_ok
  unfold rawsG at hg
  obtain ⟨i, hi, rfl⟩ := List.mem_map.1 hg
  exact raw_ok i _ (by have := List.mem_range.1 hi; omega)
theorem printP_len14 (d : Dec) : (printP d).length ≤ 13 := by
  unfold printP
  split
  · rename_i h
    obtain ⟨⟨h1, h2⟩, h3, h4, h5⟩ := decRight_bd (c := d.c) (s := d.s) h.1
    have hl := (dig_len5 (headP d)).2 h.2
    have ht := tail_len d.s.toNat d.c.natAbs
    split <;> split <;> simp only [List.length_append, List.length_cons, List.length_nil] <;> omega
  · simp
theorem line_len {g : Gl} (h : g.name.length ≤ 20) : (lineT glWord (glRest g)).length ≤ 130 := by
  have h1 := printP_len14 g.b0
  have h2 := printP_len14 g.c0
  have h3 := printP_len14 g.b1
  have h4 := printP_len14 g.c1
  have h5 := printP_len14 g.b2
  have h6 := printP_len14 g.c2
  simp only [glRest, glWord, lineT, List.length_append, List.length_cons, List.length_nil]
  omega
theorem textG_len : ∀ (l : List Gl), (∀ g ∈ l, OkGl g) → (textG l).length ≤ l.length * 130
  | [], _ => by simp [textG]
  | g :: r, h => by
    have hg := h g (by simp)
    obtain ⟨⟨c, w, e, -, -, hw⟩, -⟩ := hg
    have h1 := line_len (g := g) (by rw [e, List.length_cons]; omega)
    have h2 := textG_len r fun x hx => h x (by simp [hx])
    have e2 : textG (g :: r) = lineT glWord (glRest g) ++ textG r := List.flatMap_cons
    rw [e2, List.length_append, List.length_cons, Nat.succ_mul]
    omega
theorem glassesG_len (l : List Int) : (glassesG l).length ≤ 5 := by
  unfold glassesG
  simp only [List.length_cons, rawsG_len]
  omega
theorem raw_names (l : List Int) (k : Nat) (hk : k ≤ 3) : (rawsG l k).map Gl.name = (List.range k).map fun i => [103, UInt8.ofNat (48 + i)] := by
  unfold rawsG
  rw [List.map_map]
  refine List.map_congr_left fun i hi => ?_
  have := List.mem_range.1 hi
  show 103 :: Lib.decDigits i = _
  rw [decDigits_small (by omega)]
end Go.Proofs.YtgikjbmaahblpaaGreatDoor

namespace Go.Proofs.YtgikjbmaahblpaaGreatDoor
set_option linter.unusedVariables false
open Go.RowKit

def glassT : List UInt8 := [103, 108, 97, 115, 115]
def airT : List UInt8 := [97, 105, 114]
def hasName (t : List UInt8) (l : List Gl) : Bool := l.any fun g => g.name == t
def kindAt (k : Nat) : Nat := if k ≤ 1 then 1 else if k = 8 then 3 else 2
/-- What is wrong with a line's token k: nothing, form, there already, too many. -/
def faultG (k : Nat) (t : Tk) (l : List Gl) : Nat :=
  if t.kind ≠ kindAt k then 2
  else if k = 0 then (if t.text = glassT then 0 else 2)
  else if k = 1 then (if t.text = airT then 5 else if hasName t.text l = true then 5 else if l.length = 30 then 3 else 0)
  else 0
def tkAt (ts : List Tk) (k : Nat) : Tk := ts.getD k ⟨0, [], 0, 0⟩
/-- The first fault of a line, from its token k on. -/
def lineF : Nat → Nat → List Tk → List Gl → Option (Tk × Nat)
  | 0, _, _, _ => none
  | n + 1, k, ts, l => if faultG k (tkAt ts k) l = 0 then lineF n (k + 1) ts l else some (tkAt ts k, faultG k (tkAt ts k) l)
def madeG (name : List UInt8) (ts : List Tk) : Gl :=
  ⟨name, (readP (tkAt ts 0).text).1, (readP (tkAt ts 2).text).1, (readP (tkAt ts 4).text).1, (readP (tkAt ts 1).text).1, (readP (tkAt ts 3).text).1, (readP (tkAt ts 5).text).1⟩
structure Rd where
  l : List Gl
  line : Nat
  col : Nat
  err : Nat
def readF : Nat → List Tk → List Gl → Rd
  | 0, _, _ => ⟨[], 0, 0, 0⟩
  | n + 1, ts, acc =>
    if ts = [] then ⟨acc, 0, 0, 0⟩
    else match lineF 9 0 ts acc with
      | some (t, e) => ⟨[], t.line, t.col, e⟩
      | none => readF n (ts.drop 9) (acc ++ [madeG (tkAt ts 1).text ((ts.drop 2).take 6)])
def readG (s : List UInt8) : Rd := if (lexP s).err = 0 then readF ((lexP s).toks.length + 1) (lexP s).toks [] else ⟨[], (lexP s).line, (lexP s).col, (lexP s).err⟩

/-- A line that is not at its end has another token: its End, at least. -/
theorem more_tokens {ts : List Tk} {l : List Gl} {k : Nat} (hu : unended ts = false) (h0 : ts ≠ []) (hk : k ≤ 8) (h : ∀ j, j < k → faultG j (tkAt ts j) l = 0) : k < ts.length := by
  refine Nat.lt_of_not_le fun hle => ?_
  have hpos : 0 < ts.length := List.length_pos_iff.2 h0
  have hl := h (ts.length - 1) (by omega)
  have hg : ts.getLast? = some (tkAt ts (ts.length - 1)) := by
    rw [List.getLast?_eq_getElem?]
    unfold tkAt
    rw [List.getD_eq_getElem?_getD, List.getElem?_eq_getElem (by omega)]
    rfl
  have hk3 : (tkAt ts (ts.length - 1)).kind = 3 := by
    unfold unended at hu
    rw [hg] at hu
    simpa using hu
  unfold faultG at hl
  rw [hk3] at hl
  have : kindAt (ts.length - 1) ≠ 3 := by
    unfold kindAt
    split
    · omega
    · rw [if_neg (by omega)]
      omega
  rw [if_pos (fun e => this e.symm)] at hl
  omega
theorem unended_drop {ts : List Tk} (hu : unended ts = false) (n : Nat) : unended (ts.drop n) = false := by
  by_cases h : ts.length ≤ n
  · rw [List.drop_of_length_le h]
    rfl
  · unfold unended at *
    have e : (ts.drop n).getLast? = ts.getLast? := by
      rw [List.getLast?_drop, if_neg h]
    rw [e]
    exact hu
/-- The first fault of a line, as the walk meets it. -/
theorem lineF_skip {ts : List Tk} {l : List Gl} : ∀ (n k : Nat), (∀ j, k ≤ j → j < k + n → faultG j (tkAt ts j) l = 0) → lineF n k ts l = none
  | 0, _, _ => rfl
  | n + 1, k, h => by
    unfold lineF
    rw [if_pos (h k (by omega) (by omega))]
    exact lineF_skip n (k + 1) fun j h1 h2 => h j (by omega) (by omega)
theorem lineF_stop {ts : List Tk} {l : List Gl} : ∀ (i n k : Nat), (∀ j, k ≤ j → j < k + i → faultG j (tkAt ts j) l = 0) → faultG (k + i) (tkAt ts (k + i)) l ≠ 0 → i < n → lineF n k ts l = some (tkAt ts (k + i), faultG (k + i) (tkAt ts (k + i)) l)
  | 0, n, k, _, h, hn => by
    obtain ⟨m, rfl⟩ : ∃ m, n = m + 1 := ⟨n - 1, by omega⟩
    simp only [Nat.add_zero] at h ⊢
    unfold lineF
    rw [if_neg h]
  | i + 1, n, k, h0, h, hn => by
    obtain ⟨m, rfl⟩ : ∃ m, n = m + 1 := ⟨n - 1, by omega⟩
    unfold lineF
    rw [if_pos (h0 k (by omega) (by omega)), lineF_stop i m (k + 1) (fun j h1 h2 => h0 j (by omega) (by omega)) (by rw [show k + 1 + i = k + (i + 1) by omega]; exact h) (by omega), show k + 1 + i = k + (i + 1) by omega]

/-! ### Glasses that are printed are read the same -/
/-- What a list of glasses is that may be printed. -/
structure OkL (l : List Gl) : Prop where
  len : l.length ≤ 5
  ok : ∀ g ∈ l, OkGl g
  names : (l.map Gl.name).Nodup
  air : ∀ t ∈ l.map Gl.name, t ≠ airT
theorem hasName_no {t : List UInt8} {l : List Gl} (h : t ∉ l.map Gl.name) : hasName t l = false := by
  unfold hasName
  rw [List.any_eq_false]
  intro g hg he
  exact h (List.mem_map.2 ⟨g, hg, by simpa using he⟩)
theorem line_toks (L : Nat) (g : Gl) (q : List Tk) : ∃ c1 c2 c3 c4 c5 c6 c7 c8 : Nat, lineK L 1 glWord (glRest g) ++ q = ⟨1, glassT, L, 1⟩ :: ⟨1, g.name, L, c1⟩ :: ⟨2, printP g.b0, L, c2⟩ :: ⟨2, printP g.c0, L, c3⟩ :: ⟨2, printP g.b1, L, c4⟩ :: ⟨2, printP g.c1, L, c5⟩ :: ⟨2, printP g.b2, L, c6⟩ :: ⟨2, printP g.c2, L, c7⟩ :: ⟨3, [], L, c8⟩ :: q :=
  ⟨_, _, _, _, _, _, _, _, rfl⟩
theorem read_dec1 {d : Dec} (h : OkDec d) : (readP (printP d)).1 = d := by rw [read_print d h.1 h.2]
theorem readF_back : ∀ (l : List Gl) (n L : Nat) (acc : List Gl), l.length < n → (∀ g ∈ l, OkGl g) → (l.map Gl.name).Nodup → (∀ t ∈ l.map Gl.name, t ≠ airT ∧ t ∉ acc.map Gl.name) → acc.length + l.length ≤ 30 → readF n (toksG L l) acc = ⟨acc ++ l, 0, 0, 0⟩
  | [], n, L, acc, hn, _, _, _, _ => by
    obtain ⟨m, rfl⟩ : ∃ m, n = m + 1 := ⟨n - 1, by omega⟩
    unfold toksG readF
    rw [if_pos rfl, List.append_nil]
  | g :: r, n, L, acc, hn, hok, hnd, hx, hl => by
    obtain ⟨m, rfl⟩ : ∃ m, n = m + 1 := ⟨n - 1, by omega⟩
    simp only [List.length_cons] at hn hl
    simp only [List.map_cons, List.nodup_cons, List.mem_cons, forall_eq_or_imp] at hnd hx
    obtain ⟨⟨ha, hna⟩, hx⟩ := hx
    obtain ⟨-, o1, o2, o3, o4, o5, o6⟩ := hok g (by simp)
    unfold toksG
    obtain ⟨c1, c2, c3, c4, c5, c6, c7, c8, e⟩ := line_toks L g (toksG (L + 1) r)
    rw [e]
    unfold readF
    rw [if_neg (by simp)]
    have f1 : faultG 1 ⟨1, g.name, L, c1⟩ acc = 0 := by
      unfold faultG
      rw [if_neg (show ¬ (1 : Nat) ≠ kindAt 1 by decide), if_neg (by decide), if_pos rfl, if_neg ha, if_neg (by rw [hasName_no hna]; simp), if_neg (by omega)]
    have hf : ∀ j, 0 ≤ j → j < 0 + 9 → faultG j (tkAt (⟨1, glassT, L, 1⟩ :: ⟨1, g.name, L, c1⟩ :: ⟨2, printP g.b0, L, c2⟩ :: ⟨2, printP g.c0, L, c3⟩ :: ⟨2, printP g.b1, L, c4⟩ :: ⟨2, printP g.c1, L, c5⟩ :: ⟨2, printP g.b2, L, c6⟩ :: ⟨2, printP g.c2, L, c7⟩ :: ⟨3, [], L, c8⟩ :: toksG (L + 1) r) j) acc = 0 := by
      intro j _ hj
      match j with
      | 0 => rfl
      | 1 => exact f1
      | 2 | 3 | 4 | 5 | 6 | 7 | 8 => rfl
      | j + 9 => omega
    rw [lineF_skip 9 0 hf]
    show readF m (toksG (L + 1) r) (acc ++ [⟨g.name, (readP (printP g.b0)).1, (readP (printP g.b1)).1, (readP (printP g.b2)).1, (readP (printP g.c0)).1, (readP (printP g.c1)).1, (readP (printP g.c2)).1⟩]) = _
    rw [read_dec1 o1, read_dec1 o2, read_dec1 o3, read_dec1 o4, read_dec1 o5, read_dec1 o6]
    rw [readF_back r m (L + 1) _ (by omega) (fun x hx => hok x (by simp [hx])) hnd.2 (fun t ht => ?_) (by simp only [List.length_append, List.length_singleton]; omega), List.append_assoc]
    · rfl
    · refine ⟨(hx t ht).1, ?_⟩
      rw [List.map_append, List.mem_append]
      rintro (h | h)
      · exact (hx t ht).2 h
      · simp only [List.map_cons, List.map_nil, List.mem_singleton] at h
        subst h
        exact hnd.1 ht
theorem toksG_len : ∀ (l : List Gl) (L : Nat), l.length ≤ (toksG L l).length
  | [], _ => by simp
  | g :: r, L => by
    obtain ⟨c1, c2, c3, c4, c5, c6, c7, c8, e⟩ := line_toks L g (toksG (L + 1) r)
    have := toksG_len r (L + 1)
    unfold toksG
    rw [e]
    simp only [List.length_cons]
    omega
theorem readG_back {l : List Gl} (h : OkL l) : readG (textG l) = ⟨l, 0, 0, 0⟩ := by
  have hl := textG_len l h.ok
  have h5 := h.len
  have e := glasses_read l h.ok (by omega)
  unfold readG
  rw [e]
  simp only [if_true]
  have := toksG_len l 1
  rw [readF_back l _ 1 [] (by omega) h.ok h.names (fun t ht => ⟨h.air t ht, by simp⟩) (by simp; omega)]
  rfl

/-! ### Which may be -/
theorem lex_name {t : List UInt8} (h : OkName t) : lexP t = ⟨[⟨1, t, 1, 1⟩, ⟨3, [], 1, 1 + t.length⟩], 0, 0, 0⟩ := by
  obtain ⟨c, w, rfl, hc, hw, hl⟩ := h
  have hw' : ∀ a ∈ w, isW a = true := by simpa using hw
  have e1 : w.takeWhile isW = w := by
    have := List.takeWhile_append_of_pos (l₂ := []) hw'
    simpa using this
  have e2 : w.dropWhile isW = [] := by
    have := List.dropWhile_append_of_pos (l₂ := []) hw'
    simpa using this
  unfold lexP
  rw [if_neg (by rw [List.length_cons]; omega), List.length_cons, lexF_word hc, (word_drop hc).1, (word_drop hc).2, e1, e2, if_neg (by rw [List.length_cons]; omega), lexF_nil]
  rfl
theorem print_some {d : Dec} (h : OkDec d) : printP d ≠ [] := by
  have := (it_pos (dec_it h.1 h.2)).1
  intro e
  rw [e] at this
  simp at this
theorem nodup_take {l : List Gl} (h : (l.map Gl.name).Nodup) {k : Nat} {g : Gl} (hk : l[k]? = some g) : hasName g.name (l.take k) = false := by
  refine hasName_no fun hm => ?_
  obtain ⟨x, hx, he⟩ := List.mem_map.1 hm
  obtain ⟨j, hj⟩ := List.mem_iff_getElem?.1 hx
  rw [List.getElem?_take] at hj
  split at hj
  · rename_i hjk
    have h1 : (l.map Gl.name)[j]? = some g.name := by rw [List.getElem?_map, hj]; simp [he]
    have h2 : (l.map Gl.name)[k]? = some g.name := by rw [List.getElem?_map, hk]; rfl
    have hj2 := (List.getElem?_eq_some_iff.1 h1).1
    have := (List.getElem?_inj hj2 h).1 (h1.trans h2.symm)
    omega
  · cases hj
end Go.Proofs.YtgikjbmaahblpaaGreatDoor

namespace Go.Proofs.YtgikjbmaahblpaaGreatDoor
set_option linter.unusedVariables false
open Go.RowKit

theorem endUp_ends (acc : List Tk) (L C : Nat) : unended (endUp acc L C) = false := by
  unfold endUp
  split
  · unfold unended
    simp
  · rename_i h
    simpa using h
theorem endUp_text {acc : List Tk} {L C M : Nat} (h : ∀ t ∈ acc, t.text.length ≤ M) : ∀ t ∈ endUp acc L C, t.text.length ≤ M := endUp_all h (by simp)
theorem lexF_ends : ∀ (n : Nat) (r : List UInt8) (L C M : Nat) (acc : List Tk), r.length ≤ M → (∀ t ∈ acc, t.text.length ≤ M) → unended (lexF n r L C acc).toks = false ∧ ∀ t ∈ (lexF n r L C acc).toks, t.text.length ≤ M
  | 0, _, _, _, _, _, _, _ => by simp [lexF, unended]
  | n + 1, r, L, C, M, acc, hr, ha => by
    rw [lexF_blanks]
    have h1 := take_drop isBl r
    generalize C + (r.takeWhile isBl).length = D
    cases hd : r.dropWhile isBl with
    | nil =>
      rw [lexF_nil]
      exact ⟨endUp_ends _ _ _, endUp_text ha⟩
    | cons c q =>
      rw [hd, List.length_cons] at h1
      by_cases c10 : c = 10
      · subst c10
        rw [lexF_line]
        exact lexF_ends n q (L + 1) 1 M _ (by omega) (endUp_text ha)
      by_cases c35 : c = 35
      · subst c35
        rw [lexF_remark]
        have h2 := take_drop isRm (35 :: q)
        rw [List.length_cons] at h2
        generalize D + ((35 :: q).takeWhile isRm).length = D2
        cases hz : (35 :: q).dropWhile isRm with
        | nil =>
          rw [lexF_nil]
          exact ⟨endUp_ends _ _ _, endUp_text ha⟩
        | cons z y =>
          have hz2 : isRm z = false := by
            have := List.head?_dropWhile_not isRm (35 :: q)
            rw [hz] at this
            simpa using this
          have hz3 : z = 10 := by simpa [isRm] using hz2
          subst hz3
          rw [hz, List.length_cons] at h2
          rw [lexF_line]
          exact lexF_ends n y (L + 1) 1 M _ (by omega) (endUp_text ha)
      cases hc : isLet c with
      | true =>
        rw [lexF_word hc]
        have h2 := take_drop isW (c :: q)
        rw [List.length_cons] at h2
        split
        · simp [unended]
        · exact lexF_ends n _ L _ M _ (by omega) (snoc_all ha (by show ((c :: q).takeWhile isW).length ≤ M; omega))
      | false =>
        by_cases hn : c = 45 ∨ isD c = true
        · rw [lexF_number hn]
          have h2 := take_drop isNm q
          split
          · exact lexF_ends n _ L _ M _ (by omega) (snoc_all ha (by show (c :: q.takeWhile isNm).length ≤ M; rw [List.length_cons]; omega))
          · simp [unended]
        · have hb : isBl c = false := by
            have := List.head?_dropWhile_not isBl r
            rw [hd] at this
            simpa using this
          rw [lexF_other hb c10 c35 hc (fun h => hn (.inl h)) (by apply Bool.eq_false_iff.2; exact fun h => hn (.inr h))]
          simp [unended]
theorem lexP_ends (s : List UInt8) : unended (lexP s).toks = false ∧ ∀ t ∈ (lexP s).toks, t.text.length ≤ 4000 := by
  unfold lexP
  split
  · simp [unended]
  · exact lexF_ends _ _ _ _ _ _ (by omega) (by simp)

end Go.Proofs.YtgikjbmaahblpaaGreatDoor

namespace Go.Proofs.YtgikjbmaahblpaaGreatDoor
set_option linter.unusedVariables false
open Go.RowKit

def ixG (g : Gl) (w : Iv) : Iv := if g.name = airT then ivPoint 65536 else ixOf (ivSqr w) (decIv g.b0) (decIv g.c0) (decIv g.b1) (decIv g.c1) (decIv g.b2) (decIv g.c2)
/-- Of less light less. -/
theorem ixG_less (g : Gl) {p x : Iv} (h : ivLess p x = true) : ivLess (ixG g p) (ixG g x) = true := by
  unfold ixG
  split
  · exact less_refl _
  · exact ix_less h _ _ _ _ _ _
/-- So many tenths. -/
theorem decIv_tenths (b : Int) (h0 : 0 ≤ b) (h1 : b ≤ 1000) : decIv (decH b 1) = ⟨b * 65536 / 10, -((-(b * 65536)) / 10), false⟩ ∧ decRight (decH b 1) = true := by
  have hr := decH_right 1 b (by omega) (by omega)
  refine ⟨?_, hr⟩
  unfold decIv
  rw [if_pos hr]
  unfold decH
  have e : b.tmod 10 = b % 10 := by rw [Int.tmod_eq_emod_of_nonneg h0]
  rw [e]
  split
  · rename_i hz
    have e2 : b.tdiv 10 = b / 10 := by rw [Int.tdiv_eq_ediv_of_nonneg h0]
    have e3 : p10 0 = 1 := rfl
    show ivOf ((b.tdiv 10 * 65536).fdiv (p10 0)) (-((-(b.tdiv 10 * 65536)).fdiv (p10 0))) = _
    rw [e2, e3, Int.fdiv_eq_ediv_of_nonneg _ (by omega), Int.fdiv_eq_ediv_of_nonneg _ (by omega), Int.ediv_one, Int.ediv_one, of_yes (by omega)]
    rw [Iv.mk.injEq]
    refine ⟨by omega, by omega, rfl⟩
  · have e3 : p10 1 = 10 := rfl
    show ivOf ((b * 65536).fdiv (p10 1)) (-((-(b * 65536)).fdiv (p10 1))) = _
    rw [e3, Int.fdiv_eq_ediv_of_nonneg _ (by omega), Int.fdiv_eq_ediv_of_nonneg _ (by omega), of_yes (by omega)]
end Go.Proofs.YtgikjbmaahblpaaGreatDoor
