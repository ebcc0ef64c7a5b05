/-
  Texts as lists of bytes, as the walk meets them; the library's table of powers of ten, as the contracts ask for it.
  Decimals in plain words: their texts as lists of bytes, read and printed.
  Words and numbers in plain words: a text's tokens, or its first error and where it is.
  Decimals in plain words, the second part: how they are printed; what is printed is read the same.
  Decimals in plain words, the third part: a text read byte by byte.
  Where tokens stand: each in its line, at its column; in order, each line's ends. How great a place may be.
-/
import Derived.Test.YtekhhekkepijoaaGreatDoorRows
import Derived.Test.YtekhhekkepijoaaGreatDoorGa
import Derived.Lib.LaidTab
import Derived.Lib.ItoaNum
import Derived.WalkLawsBesides
import Derived.Lib.Bytealg
import Derived.Lib.TrimByte
import Derived.Lib.Repeat

namespace Go.Proofs.YtekhhekkepijoaaGreatDoor
set_option linter.unusedVariables false
open Go.RowKit

/-- The text of these bytes; a text's bytes. -/
def bsOf (l : List UInt8) : ByteArray := ⟨l.toArray⟩
def lsOf (s : ByteArray) : List UInt8 := s.data.toList

@[go_sem, simp] theorem ls_bs (l : List UInt8) : lsOf (bsOf l) = l := by simp [lsOf, bsOf]
@[go_sem, simp] theorem ls_mk (a : Array UInt8) : lsOf ⟨a⟩ = a.toList := rfl
@[go_sem, simp] theorem size_bs (l : List UInt8) : (bsOf l).size = l.length := by simp [bsOf, ByteArray.size]
@[go_sem, simp] theorem list_bs (l : List UInt8) : (bsOf l).toList = l := by simp [bsOf]
@[go_sem, simp] theorem data_bs (l : List UInt8) : (bsOf l).data.toList = l := by simp [bsOf]
@[go_sem, simp] theorem append_bs (l m : List UInt8) : bsOf l ++ bsOf m = bsOf (l ++ m) := ByteArray.mk_append_mk l m
@[go_sem, simp] theorem mk_append_bs (a : Array UInt8) (l : List UInt8) : (⟨a⟩ : ByteArray) ++ bsOf l = bsOf (a.toList ++ l) := append_bs a.toList l
@[go_sem, simp] theorem bs_append_mk (a : Array UInt8) (l : List UInt8) : bsOf l ++ (⟨a⟩ : ByteArray) = bsOf (l ++ a.toList) := append_bs l a.toList
@[go_sem, simp] theorem ls_append (s t : ByteArray) : lsOf (s ++ t) = lsOf s ++ lsOf t := by simp [lsOf]
@[go_sem, simp] theorem extract_bs (l : List UInt8) (i j : Nat) : (bsOf l).extract i j = bsOf ((l.drop i).take (j - i)) := ByteArray.extract_mk l i j
theorem str_bs (s : ByteArray) : ∃ l, s = bsOf l := ⟨lsOf s, rfl⟩
/-- The byte at a place, as a number. -/
def byteAt (l : List UInt8) (k : Nat) : Int := ((l.getD k 0).toNat : Int)
theorem byteAt_bd (l : List UInt8) (k : Nat) : 0 ≤ byteAt l k ∧ byteAt l k ≤ 255 := by
  unfold byteAt
  have := (l.getD k 0).toNat_lt
  omega
@[go_sem, simp] theorem get_bs (l : List UInt8) (k : Nat) (h : k < (bsOf l).size) : (((bsOf l)[k]'h).toNat : Int) = byteAt l k := by
  have h1 : k < l.length := by simpa using h
  unfold byteAt
  rw [List.getD_eq_getElem?_getD, List.getElem?_eq_getElem h1]
  simp [bsOf, ByteArray.getElem_eq_getElem_data]

/-- The table's name, as the row has it. -/
def tabName : String := Rows.systemKnownRow.named.getD 3 ""
/-- The library's table lies there. -/
def Tab (w : World) : Prop := Lib.TabIs Tryz.prog w tabName .u64 Lib.pow10Tab
theorem Tab.keep {w w' : World} (h : Tab w) (hb : ∀ k, k < w.heap.size → w'.heap[k]? = w.heap[k]?) : Tab w' := by
  unfold Tab Lib.TabIs World.var? at *
  cases hg : Tryz.prog.globalNamed tabName with
  | none => simp [hg] at h
  | some g =>
    simp only [hg, Option.bind_some] at h ⊢
    have hlt : g < w.heap.size := by
      rcases Nat.lt_or_ge g w.heap.size with h' | h'
      · exact h'
      · rw [Array.getElem?_eq_none h'] at h; simp at h
    rw [hb g hlt]
    exact h
theorem Tab.more {w : World} (h : Tab w) {r : Rest} : Tab (more w r) := h.keep fun k hk => heap_more w r k hk
theorem Tab.alloc {w : World} (h : Tab w) {o : Obj} : Tab (w.alloc o) := h.keep fun k hk => Below.heap_alloc w o k hk
theorem Tab.drew {w : World} (h : Tab w) : Tab w.drew := h.keep fun _ _ => rfl
theorem Tab.drewN {w : World} (h : Tab w) {n : Nat} : Tab (w.drewN n) := h.keep fun _ _ => rfl

end Go.Proofs.YtekhhekkepijoaaGreatDoor

namespace Go.Proofs.YtekhhekkepijoaaGreatDoor
set_option linter.unusedVariables false
open Go.RowKit

/-! ### Digits -/
def isD (b : UInt8) : Bool := decide (48 ≤ b.toNat) && decide (b.toNat ≤ 57)
def dv (b : UInt8) : Nat := b.toNat - 48
def valL (l : List UInt8) : Nat := l.foldl (fun n b => 10 * n + dv b) 0
theorem valL_snoc (l : List UInt8) (b : UInt8) : valL (l ++ [b]) = 10 * valL l + dv b := by simp [valL, List.foldl_append]
theorem dv_le (b : UInt8) (h : isD b = true) : dv b ≤ 9 := by simp [isD, dv] at *; omega
theorem snoc_ind {α : Type} {p : List α → Prop} (h0 : p []) (h1 : ∀ l b, p l → p (l ++ [b])) (l : List α) : p l := by
  have h : ∀ r : List α, p r.reverse := by
    intro r
    induction r with
    | nil => exact h0
    | cons b r ih => rw [List.reverse_cons]; exact h1 _ _ ih
  have := h l.reverse
  rwa [List.reverse_reverse] at this
theorem valL_lt (l : List UInt8) (h : l.all isD = true) : valL l < 10 ^ l.length := by
  induction l using snoc_ind with
  | h0 => simp [valL]
  | h1 l b ih =>
    rw [List.all_append, Bool.and_eq_true] at h
    have := ih h.1
    have hb : dv b ≤ 9 := dv_le b (by simpa using h.2)
    rw [valL_snoc, List.length_append, List.length_singleton, Nat.pow_succ]
    omega
/-- 1 to m digits, and nothing else. -/
def digs (l : List UInt8) (m : Int) : Bool := decide (1 ≤ l.length) && decide ((l.length : Int) ≤ m) && l.all isD

/-! ### What the library's calls do -/
def isNeg (l : List UInt8) : Bool := l.head? == some 45
def unsg (l : List UInt8) : List UInt8 := if isNeg l then l.tail else l
def hasDot (l : List UInt8) : Bool := l.contains 46
def dotA (l : List UInt8) : List UInt8 := l.takeWhile (· != 46)
def dotB (l : List UInt8) : List UInt8 := (l.dropWhile (· != 46)).tail
def noZ (l : List UInt8) : List UInt8 := Lib.trimRightB l 48

theorem isNeg_lib (l : List UInt8) : Lib.hasPrefix l [45] = isNeg l := by
  cases l with
  | nil => rfl
  | cons a r => simp [Lib.hasPrefix, isNeg, List.isPrefixOf]; exact BEq.comm
theorem unsg_lib (l : List UInt8) : Lib.trimPrefix l [45] = unsg l := by
  unfold Lib.trimPrefix unsg
  rw [isNeg_lib]
  simp

theorem index_dot : ∀ l : List UInt8, Lib.indexByte l 46 = if hasDot l = true then ((dotA l).length : Int) else -1
  | [] => rfl
  | b :: r => by
    have ih := index_dot r
    unfold Lib.indexByte
    by_cases hb : b = 46
    · subst hb
      simp [hasDot, dotA]
    · have h1 : (b == 46) = false := by simpa using hb
      have h2 : hasDot (b :: r) = hasDot r := by
        simp only [hasDot, List.contains_cons]
        have : ((46 : UInt8) == b) = false := by simpa using fun h => hb h.symm
        rw [this, Bool.false_or]
      have h3 : dotA (b :: r) = b :: dotA r := by simp [dotA, hb]
      rw [h1, ih, h2, h3]
      by_cases hd : hasDot r = true
      · rw [if_pos hd, if_pos hd]
        have : (((dotA r).length : Int) == -1) = false := by simp
        rw [this]
        simp
      · rw [if_neg hd, if_neg hd]
        rfl
theorem dot_parts : ∀ l : List UInt8, hasDot l = true → l = dotA l ++ 46 :: dotB l
  | [], h => by cases h
  | b :: r, h => by
    by_cases hb : b = 46
    · subst hb
      simp [dotA, dotB]
    · have h2 : hasDot r = true := by
        simp only [hasDot, List.contains_cons] at h ⊢
        have : ((46 : UInt8) == b) = false := by simpa using fun h => hb h.symm
        rwa [this, Bool.false_or] at h
      have h3 : dotA (b :: r) = b :: dotA r := by simp [dotA, hb]
      have h4 : dotB (b :: r) = dotB r := by simp [dotB, hb]
      rw [h3, h4, List.cons_append, ← dot_parts r h2]
theorem dot_none : ∀ l : List UInt8, hasDot l = false → dotA l = l ∧ dotB l = []
  | [], _ => ⟨rfl, rfl⟩
  | b :: r, h => by
    simp only [hasDot, List.contains_cons, Bool.or_eq_false_iff] at h
    have hb : ¬ b = 46 := fun e => by subst e; simp at h
    have h2 := dot_none r h.2
    have h3 : dotA (b :: r) = b :: dotA r := by simp [dotA, hb]
    have h4 : dotB (b :: r) = dotB r := by simp [dotB, hb]
    rw [h3, h4, h2.1, h2.2]
    exact ⟨rfl, rfl⟩
theorem cut_at (a b : List UInt8) (x : UInt8) (l : List UInt8) (e : l = a ++ x :: b) : l.take a.length = a ∧ l.drop (a.length + 1) = b ∧ a.length + 1 ≤ l.length := by
  subst e
  refine ⟨by simp, ?_, by simp⟩
  rw [List.drop_append, List.drop_eq_nil_of_le (by omega)]
  simp
theorem dot_take (l : List UInt8) (h : hasDot l = true) : l.take (dotA l).length = dotA l ∧ l.drop ((dotA l).length + 1) = dotB l ∧ (dotA l).length + 1 ≤ l.length :=
  cut_at _ _ 46 l (dot_parts l h)
/-! ### Zeros at the end -/
theorem noZ_snoc (l : List UInt8) (b : UInt8) : noZ (l ++ [b]) = if b = 48 then noZ l else l ++ [b] := by
  unfold noZ Lib.trimRightB
  rw [List.reverse_append, List.reverse_singleton, List.singleton_append]
  by_cases hb : b = 48
  · subst hb
    rw [if_pos rfl, List.dropWhile_cons_of_pos (by rfl)]
  · rw [if_neg hb, List.dropWhile_cons_of_neg (by simpa using hb)]
    simp
theorem noZ_all (l : List UInt8) (h : l.all isD = true) : (noZ l).all isD = true := by
  induction l using snoc_ind with
  | h0 => rfl
  | h1 l b ih =>
    rw [noZ_snoc]
    split
    · rw [List.all_append, Bool.and_eq_true] at h
      exact ih h.1
    · exact h
theorem noZ_len (l : List UInt8) : (noZ l).length ≤ l.length := by
  induction l using snoc_ind with
  | h0 => simp [noZ, Lib.trimRightB]
  | h1 l b ih =>
    rw [noZ_snoc]
    split
    · rw [List.length_append]; omega
    · omega
/-- A number and its scale, without zeros at the end behind the point. -/
def canon : Nat → Nat → Nat × Nat
  | c, 0 => (c, 0)
  | c, s + 1 => if c % 10 = 0 then canon (c / 10) s else (c, s + 1)
theorem canon_text (a b : List UInt8) (h : b.all isD = true) : canon (valL (a ++ b)) b.length = (valL (a ++ noZ b), (noZ b).length) := by
  induction b using snoc_ind with
  | h0 => simp [canon, noZ, Lib.trimRightB]
  | h1 b x ih =>
    rw [List.all_append, Bool.and_eq_true] at h
    have hx : isD x = true := by simpa using h.2
    have hd := dv_le x hx
    rw [noZ_snoc, ← List.append_assoc, valL_snoc, List.length_append, List.length_singleton]
    unfold canon
    by_cases h0 : x = 48
    · subst h0
      rw [if_pos rfl, if_pos (by simp [dv])]
      have : (10 * valL (a ++ b) + dv 48) / 10 = valL (a ++ b) := by simp [dv]
      rw [this]
      exact ih h.1
    · have hne : ¬ dv x = 0 := by
        simp [isD, dv] at hx ⊢
        intro hle
        exact h0 (UInt8.toNat_inj.1 (by show x.toNat = 48; omega))
      rw [if_neg h0, if_neg (by omega), ← List.append_assoc, valL_snoc]
      simp
/-! ### Read -/
def okA (u : List UInt8) : Bool := digs (dotA u) 5 && (!hasDot u || digs (dotB u) 6)
structure Dec where
  c : Int
  s : Int
def readP (l : List UInt8) : Dec × Bool :=
  if okA (unsg l) = true then
    (if isNeg l = true ∧ valL (dotA (unsg l) ++ noZ (dotB (unsg l))) = 0 then (⟨0, 0⟩, false)
     else (⟨if isNeg l = true then -(valL (dotA (unsg l) ++ noZ (dotB (unsg l))) : Int) else (valL (dotA (unsg l) ++ noZ (dotB (unsg l))) : Int), ((noZ (dotB (unsg l))).length : Int)⟩, true))
  else (⟨0, 0⟩, false)
end Go.Proofs.YtekhhekkepijoaaGreatDoor

namespace Go.Proofs.YtekhhekkepijoaaGreatDoor
set_option linter.unusedVariables false
open Go.RowKit

/-! ### Bytes -/
def isBl (b : UInt8) : Bool := b == 32 || b == 9
def isLet (b : UInt8) : Bool := decide (97 ≤ b.toNat) && decide (b.toNat ≤ 122) || decide (65 ≤ b.toNat) && decide (b.toNat ≤ 90)
def isW (b : UInt8) : Bool := isLet b || isD b || b == 45 || b == 95
def isNm (b : UInt8) : Bool := isD b || b == 46
def isRm (b : UInt8) : Bool := b != 10

/-- A token: its kind, its text, its place. -/
structure Tk where
  kind : Nat
  text : List UInt8
  line : Nat
  col : Nat
/-- What Tokens answers: the tokens, the error's place, the error. -/
structure Lexed where
  toks : List Tk
  line : Nat
  col : Nat
  err : Nat

/-- Do tokens stand behind the last End? -/
def unended (acc : List Tk) : Bool := match acc.getLast? with | some t => t.kind != 3 | none => false
def endUp (acc : List Tk) (L C : Nat) : List Tk := if unended acc then acc ++ [⟨3, [], L, C⟩] else acc

/-- From a place on: n at least as great as the rest and one more. -/
def lexF : Nat → List UInt8 → Nat → Nat → List Tk → Lexed
  | 0, _, _, _, _ => ⟨[], 0, 0, 0⟩
  | n + 1, r, L, C, acc =>
    match r.dropWhile isBl with
    | [] => ⟨endUp acc L (C + (r.takeWhile isBl).length), 0, 0, 0⟩
    | c :: q =>
      if c = 10 then lexF n q (L + 1) 1 (endUp acc L (C + (r.takeWhile isBl).length))
      else if c = 35 then
        match (c :: q).dropWhile isRm with
        | [] => ⟨endUp acc L (C + (r.takeWhile isBl).length + ((c :: q).takeWhile isRm).length), 0, 0, 0⟩
        | _ :: z => lexF n z (L + 1) 1 (endUp acc L (C + (r.takeWhile isBl).length + ((c :: q).takeWhile isRm).length))
      else if isLet c then
        if ((c :: q).takeWhile isW).length > 20 then ⟨[], L, C + (r.takeWhile isBl).length, 3⟩
        else lexF n ((c :: q).dropWhile isW) L (C + (r.takeWhile isBl).length + ((c :: q).takeWhile isW).length) (acc ++ [⟨1, (c :: q).takeWhile isW, L, C + (r.takeWhile isBl).length⟩])
      else if c = 45 ∨ isD c then
        if (readP (c :: q.takeWhile isNm)).2 then lexF n (q.dropWhile isNm) L (C + (r.takeWhile isBl).length + (1 + (q.takeWhile isNm).length)) (acc ++ [⟨2, c :: q.takeWhile isNm, L, C + (r.takeWhile isBl).length⟩])
        else ⟨[], L, C + (r.takeWhile isBl).length, 2⟩
      else ⟨[], L, C + (r.takeWhile isBl).length, 2⟩

def lexP (s : List UInt8) : Lexed := if s.length > 4000 then ⟨[], 0, 0, 3⟩ else lexF (s.length + 1) s 1 1 []

/-! ### One step, as it is told by what stands there -/
theorem lexF_blank {n : Nat} {b : UInt8} {r : List UInt8} {L C : Nat} {acc : List Tk} (hb : isBl b = true) : lexF (n + 1) (b :: r) L C acc = lexF (n + 1) r L (C + 1) acc := by
  have e1 : (b :: r).dropWhile isBl = r.dropWhile isBl := List.dropWhile_cons_of_pos hb
  have e2 : ((b :: r).takeWhile isBl).length = 1 + (r.takeWhile isBl).length := by rw [List.takeWhile_cons_of_pos hb]; simp; omega
  unfold lexF
  rw [e1, e2]
  simp only [Nat.add_assoc]
theorem lexF_blanks {n : Nat} : ∀ {r : List UInt8} {L C : Nat} {acc : List Tk}, lexF (n + 1) r L C acc = lexF (n + 1) (r.dropWhile isBl) L (C + (r.takeWhile isBl).length) acc
  | [], L, C, acc => rfl
  | b :: r, L, C, acc => by
    cases hb : isBl b with
    | true =>
      rw [lexF_blank hb, lexF_blanks, List.dropWhile_cons_of_pos hb, List.takeWhile_cons_of_pos hb]
      congr 1
      simp only [List.length_cons]
      omega
    | false =>
      have hb' : ¬ isBl b = true := by rw [hb]; simp
      rw [List.dropWhile_cons_of_neg hb', List.takeWhile_cons_of_neg hb']
      rfl
theorem drop_id {p : UInt8 → Bool} {b : UInt8} {r : List UInt8} (h : p b = false) : (b :: r).dropWhile p = b :: r ∧ (b :: r).takeWhile p = [] := by
  have h' : ¬ p b = true := by rw [h]; simp
  exact ⟨List.dropWhile_cons_of_neg h', List.takeWhile_cons_of_neg h'⟩
theorem lexF_nil {n : Nat} {L C : Nat} {acc : List Tk} : lexF (n + 1) [] L C acc = ⟨endUp acc L C, 0, 0, 0⟩ := rfl
theorem lexF_line {n : Nat} {r : List UInt8} {L C : Nat} {acc : List Tk} : lexF (n + 1) (10 :: r) L C acc = lexF n r (L + 1) 1 (endUp acc L C) := rfl
theorem lexF_remark {n : Nat} {r : List UInt8} {L C : Nat} {acc : List Tk} : lexF (n + 1) (35 :: r) L C acc = lexF (n + 1) ((35 :: r).dropWhile isRm) L (C + ((35 :: r).takeWhile isRm).length) acc := by
  have h1 : isBl 35 = false := rfl
  conv => lhs; unfold lexF
  rw [(drop_id h1).1, (drop_id h1).2]
  simp only [show ¬ (35 : UInt8) = 10 by decide, if_false, if_true, List.length_nil, Nat.add_zero]
  cases hz : (35 :: r).dropWhile isRm with
  | nil => rfl
  | cons z q =>
    have hz2 : isRm z = false := by
      have := List.head?_dropWhile_not isRm (35 :: r)
      rw [hz] at this
      simpa using this
    have hz3 : z = 10 := by simpa [isRm] using hz2
    subst hz3
    rfl
theorem lexF_word {n : Nat} {c : UInt8} {q : List UInt8} {L C : Nat} {acc : List Tk} (hc : isLet c = true) :
    lexF (n + 1) (c :: q) L C acc = if ((c :: q).takeWhile isW).length > 20 then ⟨[], L, C, 3⟩
      else lexF n ((c :: q).dropWhile isW) L (C + ((c :: q).takeWhile isW).length) (acc ++ [⟨1, (c :: q).takeWhile isW, L, C⟩]) := by
  have h1 : isBl c = false := by
    apply Bool.eq_false_iff.2
    intro h
    simp only [isBl, Bool.or_eq_true, beq_iff_eq] at h
    rcases h with rfl | rfl <;> exact absurd hc (by decide)
  have h2 : ¬ c = 10 := by rintro rfl; exact absurd hc (by decide)
  have h3 : ¬ c = 35 := by rintro rfl; exact absurd hc (by decide)
  conv => lhs; unfold lexF
  rw [(drop_id h1).1, (drop_id h1).2]
  simp only [h2, h3, hc, if_false, if_true, List.length_nil, Nat.add_zero]
theorem num_facts {c : UInt8} (hc : c = 45 ∨ isD c = true) : isBl c = false ∧ ¬ c = 10 ∧ ¬ c = 35 ∧ isLet c = false := by
  rcases hc with rfl | hc
  · exact ⟨rfl, by decide, by decide, rfl⟩
  · have hd := hc
    simp only [isD, Bool.and_eq_true, decide_eq_true_eq] at hd
    refine ⟨?_, by rintro rfl; exact absurd hc (by decide), by rintro rfl; exact absurd hc (by decide), ?_⟩
    · apply Bool.eq_false_iff.2
      intro h
      simp only [isBl, Bool.or_eq_true, beq_iff_eq] at h
      rcases h with rfl | rfl <;> exact absurd hc (by decide)
    · simp only [isLet, Bool.or_eq_false_iff, Bool.and_eq_false_iff, decide_eq_false_iff_not]
      omega
theorem lexF_number {n : Nat} {c : UInt8} {q : List UInt8} {L C : Nat} {acc : List Tk} (hc : c = 45 ∨ isD c = true) :
    lexF (n + 1) (c :: q) L C acc = if (readP (c :: q.takeWhile isNm)).2 then lexF n (q.dropWhile isNm) L (C + (1 + (q.takeWhile isNm).length)) (acc ++ [⟨2, c :: q.takeWhile isNm, L, C⟩]) else ⟨[], L, C, 2⟩ := by
  obtain ⟨h1, h2, h3, h4⟩ := num_facts hc
  conv => lhs; unfold lexF
  rw [(drop_id h1).1, (drop_id h1).2]
  simp only [h2, h3, h4, hc, if_false, if_true, List.length_nil, Nat.add_zero, Bool.false_eq_true]
theorem lexF_other {n : Nat} {c : UInt8} {q : List UInt8} {L C : Nat} {acc : List Tk} (h1 : isBl c = false) (h2 : ¬ c = 10) (h3 : ¬ c = 35) (h4 : isLet c = false) (h5 : ¬ c = 45) (h6 : isD c = false) :
    lexF (n + 1) (c :: q) L C acc = ⟨[], L, C, 2⟩ := by
  conv => lhs; unfold lexF
  rw [(drop_id h1).1, (drop_id h1).2]
  simp only [h2, h3, h4, h5, h6, if_false, List.length_nil, Nat.add_zero, Bool.false_eq_true, or_self]

/-! ### How long the rest is -/
theorem drop_le (p : UInt8 → Bool) (l : List UInt8) : (l.dropWhile p).length ≤ l.length := (List.dropWhile_suffix p).length_le
theorem take_drop (p : UInt8 → Bool) (l : List UInt8) : (l.takeWhile p).length + (l.dropWhile p).length = l.length := by
  rw [← List.length_append, List.takeWhile_append_dropWhile]
theorem word_drop {c : UInt8} {q : List UInt8} (hc : isLet c = true) : (c :: q).dropWhile isW = q.dropWhile isW ∧ (c :: q).takeWhile isW = c :: q.takeWhile isW := by
  have h : isW c = true := by simp [isW, hc]
  exact ⟨List.dropWhile_cons_of_pos h, List.takeWhile_cons_of_pos h⟩
/-- The scan of a class of bytes, byte by byte: what is taken of l's first k. -/
theorem take_stop {p : UInt8 → Bool} {l : List UInt8} {k : Nat} (h1 : (l.take k).all p = true) (h2 : k = l.length ∨ k < l.length ∧ p (l.getD k 0) = false) : l.takeWhile p = l.take k ∧ l.dropWhile p = l.drop k := by
  have e : l = l.take k ++ l.drop k := (List.take_append_drop k l).symm
  have hd : (l.drop k).takeWhile p = [] ∧ (l.drop k).dropWhile p = l.drop k := by
    rcases h2 with h2 | ⟨h2, h3⟩
    · rw [List.drop_of_length_le (by omega)]; exact ⟨rfl, rfl⟩
    · rw [List.drop_eq_getElem_cons h2]
      have : l[k] = l.getD k 0 := by simp [List.getD, h2]
      rw [this]
      exact ⟨(drop_id h3).2, (drop_id h3).1⟩
  have h1' : ∀ a ∈ l.take k, p a = true := by simpa using h1
  refine ⟨?_, ?_⟩
  · conv => lhs; rw [e]
    rw [List.takeWhile_append_of_pos h1', hd.1, List.append_nil]
  · conv => lhs; rw [e]
    rw [List.dropWhile_append_of_pos h1', hd.2]
theorem take_more {p : UInt8 → Bool} {l : List UInt8} {k : Nat} (h1 : (l.take k).all p = true) (hk : k < l.length) (hp : p (l.getD k 0) = true) : (l.take (k + 1)).all p = true := by
  have e : l.take (k + 1) = l.take k ++ [l.getD k 0] := by
    rw [List.take_succ_eq_append_getElem hk, List.getD_eq_getElem?_getD, List.getElem?_eq_getElem hk]
    rfl
  rw [e, List.all_append, h1, List.all_cons, hp]
  rfl

/-! ### The bytes as numbers, as the walk asks -/
def isBlz (n : Int) : Bool := decide (n = 32) || decide (n = 9)
def isLz (n : Int) : Bool := decide (97 ≤ n) && decide (n ≤ 122) || decide (65 ≤ n) && decide (n ≤ 90)
theorem isLz_at (l : List UInt8) (k : Nat) : isLz (byteAt l k) = isLet (l.getD k 0) := by
  unfold isLz isLet byteAt
  generalize (l.getD k 0).toNat = n
  congr 1 <;> congr 1 <;> (rw [decide_eq_decide]; omega)
theorem byte_eq {l : List UInt8} {k m : Nat} (hm : m < 256) : byteAt l k = (m : Int) ↔ l.getD k 0 = UInt8.ofNat m := by
  unfold byteAt
  constructor
  · intro h
    apply UInt8.toNat_inj.1
    rw [UInt8.toNat_ofNat_of_lt' (by omega)]
    omega
  · intro h
    rw [h, UInt8.toNat_ofNat_of_lt' (by omega)]
end Go.Proofs.YtekhhekkepijoaaGreatDoor

namespace Go.Proofs.YtekhhekkepijoaaGreatDoor
set_option linter.unusedVariables false
open Go.RowKit Go.Lib

theorem decDigits_small {u : Nat} (h : u < 10) : decDigits u = [UInt8.ofNat (48 + u)] := decDigits_one h
theorem decDigits_big {u : Nat} (h : ¬ u < 10) : decDigits u = decDigits (u / 10) ++ [UInt8.ofNat (48 + u % 10)] := by rw [decDigits, dif_neg h]
theorem dig_byte (u : Nat) (h : u < 10) : isD (UInt8.ofNat (48 + u)) = true ∧ dv (UInt8.ofNat (48 + u)) = u := by
  have : u = 0 ∨ u = 1 ∨ u = 2 ∨ u = 3 ∨ u = 4 ∨ u = 5 ∨ u = 6 ∨ u = 7 ∨ u = 8 ∨ u = 9 := by omega
  rcases this with rfl | rfl | rfl | rfl | rfl | rfl | rfl | rfl | rfl | rfl <;> decide
theorem dig_all (u : Nat) : (decDigits u).all isD = true := by
  induction u using Nat.strongRecOn with
  | ind u ih =>
    by_cases h : u < 10
    · rw [decDigits_small h]
      simpa using (dig_byte u h).1
    · rw [decDigits_big h, List.all_append, ih (u / 10) (by omega)]
      simpa using (dig_byte (u % 10) (by omega)).1
theorem dig_pos (u : Nat) : 1 ≤ (decDigits u).length := by rw [decDigits_length]; exact nDigits_pos u
theorem dig_len : ∀ (m u : Nat), u < 10 ^ (m + 1) → (decDigits u).length ≤ m + 1
  | 0, u, h => by rw [decDigits_small (by simpa using h)]; simp
  | m + 1, u, h => by
    by_cases h9 : u < 10
    · rw [decDigits_small h9]; simp
    · rw [decDigits_big h9, List.length_append, List.length_singleton]
      have := dig_len m (u / 10) (by rw [Nat.pow_succ] at h; omega)
      omega
theorem dig_len5 (u : Nat) : (decDigits u).length ≤ 5 ↔ u ≤ 99999 := by
  rw [decDigits_length]
  constructor
  · intro h
    have h1 := lt_pow_nDigits u
    have : (10 : Nat) ^ nDigits u ≤ 10 ^ 5 := Nat.pow_le_pow_right (by decide) h
    omega
  · intro h
    apply Classical.byContradiction
    intro hc
    have h1 : 10 ^ 5 ≤ 10 ^ (nDigits u - 1) := Nat.pow_le_pow_right (by decide) (by omega)
    have h2 : 10 ^ (nDigits u - 1) ≤ u := by
      have key : ∀ v, 10 ≤ v → 10 ^ (nDigits v - 1) ≤ v := by
        intro v
        induction v using Nat.strongRecOn with
        | ind v ih =>
          intro hv
          rw [nDigits_big (by omega)]
          by_cases h9 : v / 10 < 10
          · rw [nDigits_small h9]
            simp
            omega
          · have := ih (v / 10) (by omega) (by omega)
            have hp := nDigits_pos (v / 10)
            have e : nDigits (v / 10) + 1 - 1 = (nDigits (v / 10) - 1) + 1 := by omega
            rw [e, Nat.pow_succ]
            omega
      apply key
      apply Classical.byContradiction
      intro h10
      rw [nDigits_small (by omega)] at hc
      omega
    omega

/-- Zeros ahead, that one digit at least stands ahead of the point; what stands behind it. -/
def padL (n s : Nat) : List UInt8 := List.replicate (s + 1 - (decDigits n).length) 48 ++ decDigits n
def tailL (n s : Nat) : List UInt8 := (decDigits (n % 10 ^ s + 10 ^ s)).tail
theorem tail_snoc {α : Type} (l : List α) (b : α) (h : l ≠ []) : (l ++ [b]).tail = l.tail ++ [b] := by
  cases l with
  | nil => exact absurd rfl h
  | cons a r => rfl
theorem dig_ne (u : Nat) : decDigits u ≠ [] := fun h => by have := dig_pos u; rw [h] at this; simp at this
theorem tail_next (n s : Nat) : tailL n (s + 1) = tailL (n / 10) s ++ [UInt8.ofNat (48 + n % 10)] := by
  unfold tailL
  have hp : 0 < 10 ^ s := Nat.pow_pos (by decide)
  have e1 : n % 10 ^ (s + 1) = n % 10 + 10 * (n / 10 % 10 ^ s) := by
    rw [Nat.pow_succ, Nat.mul_comm (10 ^ s) 10, Nat.mod_mul]
  have e0 : n % 10 ^ (s + 1) + 10 ^ (s + 1) = n % 10 + 10 * (n / 10 % 10 ^ s + 10 ^ s) := by
    rw [e1, Nat.pow_succ]
    omega
  rw [e0, decDigits_big (by omega)]
  have e2 : (n % 10 + 10 * (n / 10 % 10 ^ s + 10 ^ s)) / 10 = n / 10 % 10 ^ s + 10 ^ s := by omega
  have e3 : (n % 10 + 10 * (n / 10 % 10 ^ s + 10 ^ s)) % 10 = n % 10 := by omega
  rw [e2, e3, tail_snoc _ _ (dig_ne _)]
theorem tail_zero (n : Nat) : tailL n 0 = [] := by
  unfold tailL
  have : n % 10 ^ 0 + 10 ^ 0 = 1 := by simp [Nat.mod_one]
  rw [this, decDigits_small (by decide)]
  rfl
theorem tail_len : ∀ (s n : Nat), (tailL n s).length = s
  | 0, n => by rw [tail_zero]; rfl
  | s + 1, n => by rw [tail_next, List.length_append, tail_len s]; rfl
theorem pad_next (n s : Nat) : padL n (s + 1) = padL (n / 10) s ++ [UInt8.ofNat (48 + n % 10)] := by
  unfold padL
  by_cases h : n < 10
  · have e : n / 10 = 0 := by omega
    rw [decDigits_small h, e, decDigits_small (by decide)]
    have h2 : n % 10 = n := by omega
    rw [h2]
    show List.replicate (s + 1) 48 ++ [UInt8.ofNat (48 + n)] = List.replicate s 48 ++ [48] ++ [UInt8.ofNat (48 + n)]
    rw [List.replicate_succ']
  · rw [decDigits_big h, List.length_append, List.length_singleton, ← List.append_assoc]
    congr 3
    omega
theorem pad_parts : ∀ (s n : Nat), padL n s = decDigits (n / 10 ^ s) ++ tailL n s
  | 0, n => by
    have h := dig_pos n
    rw [tail_zero, Nat.pow_zero, Nat.div_one, List.append_nil]
    unfold padL
    have : 0 + 1 - (decDigits n).length = 0 := by omega
    rw [this]
    rfl
  | s + 1, n => by
    rw [pad_next, pad_parts s, tail_next, ← List.append_assoc, Nat.div_div_eq_div_mul, Nat.pow_succ, Nat.mul_comm (10 ^ s) 10]
/-! ### Print -/
def decRight (d : Dec) : Bool := decide (-100000000000 ≤ d.c) && decide (d.c ≤ 100000000000) && decide (0 ≤ d.s) && decide (d.s ≤ 6) && (decide (d.s = 0) || !(d.c.tmod 10 == 0))
def headP (d : Dec) : Nat := d.c.natAbs / 10 ^ d.s.toNat
def printP (d : Dec) : List UInt8 :=
  if decRight d = true ∧ headP d ≤ 99999 then
    (if d.c < 0 then [45] else []) ++ (decDigits (headP d) ++ if d.s = 0 then [] else 46 :: tailL d.c.natAbs d.s.toNat)
  else []
theorem decRight_bd {c s : Int} (h : decRight ⟨c, s⟩ = true) : (-100000000000 ≤ c ∧ c ≤ 100000000000) ∧ 0 ≤ s ∧ s ≤ 6 ∧ (s = 0 ∨ c.tmod 10 ≠ 0) := by
  simp only [decRight, Bool.and_eq_true, Bool.or_eq_true, decide_eq_true_eq, Bool.not_eq_true', beq_eq_false_iff_ne] at h
  exact ⟨⟨h.1.1.1.1, h.1.1.1.2⟩, h.1.1.2, h.1.2, h.2⟩
theorem decRight_mk {c s : Int} (h1 : -100000000000 ≤ c) (h2 : c ≤ 100000000000) (h3 : 0 ≤ s) (h4 : s ≤ 6) (h5 : s = 0 ∨ c.tmod 10 ≠ 0) : decRight ⟨c, s⟩ = true := by
  simp only [decRight, Bool.and_eq_true, Bool.or_eq_true, decide_eq_true_eq, Bool.not_eq_true', beq_eq_false_iff_ne]
  exact ⟨⟨⟨⟨h1, h2⟩, h3⟩, h4⟩, h5⟩
theorem not_minus {l : List UInt8} (h : l.all isD = true) : isNeg l = false := by
  cases l with
  | nil => rfl
  | cons a r =>
    simp only [isNeg, List.head?_cons]
    simp only [List.all_cons, Bool.and_eq_true] at h
    by_cases ha : a = 45
    · subst ha; exact absurd h.1 (by decide)
    · simpa using ha
end Go.Proofs.YtekhhekkepijoaaGreatDoor

namespace Go.Proofs.YtekhhekkepijoaaGreatDoor
set_option linter.unusedVariables false
open Go.RowKit Go.Lib

theorem readP_no {l : List UInt8} (h : okA (unsg l) = false) : readP l = (⟨0, 0⟩, false) := by
  unfold readP
  rw [if_neg (by simp [h])]
theorem okA_digits {u : List UInt8} (h : okA u = true) : (dotB u).all isD = true := by
  unfold okA at h
  simp only [Bool.and_eq_true, Bool.or_eq_true, Bool.not_eq_true'] at h
  rcases h.2 with h2 | h2
  · rw [(dot_none u h2).2]; rfl
  · simp only [digs, Bool.and_eq_true] at h2
    exact h2.2
/-- What is read, by a number and its scale without zeros at the end. -/
theorem readP_yes {l : List UInt8} (h : okA (unsg l) = true) (c s : Nat) (e : canon (valL (dotA (unsg l) ++ dotB (unsg l))) (dotB (unsg l)).length = (c, s)) :
    readP l = if isNeg l = true ∧ c = 0 then (⟨0, 0⟩, false) else (⟨if isNeg l = true then -(c : Int) else (c : Int), (s : Int)⟩, true) := by
  have ht := canon_text (dotA (unsg l)) (dotB (unsg l)) (okA_digits h)
  rw [e] at ht
  injection ht with h1 h2
  unfold readP
  rw [if_pos h, ← h1, ← h2]
end Go.Proofs.YtekhhekkepijoaaGreatDoor

namespace Go.Proofs.YtekhhekkepijoaaGreatDoor
set_option linter.unusedVariables false
open Go.RowKit

/-! ### Places are small -/
theorem endUp_all {acc : List Tk} {L C : Nat} {p : Tk → Prop} (h : ∀ t ∈ acc, p t) (hn : p ⟨3, [], L, C⟩) : ∀ t ∈ endUp acc L C, p t := by
  unfold endUp
  split
  · intro t ht
    rcases List.mem_append.1 ht with ht | ht
    · exact h t ht
    · rw [List.mem_singleton.1 ht]; exact hn
  · exact h
theorem snoc_all {acc : List Tk} {u : Tk} {p : Tk → Prop} (h : ∀ t ∈ acc, p t) (hn : p u) : ∀ t ∈ acc ++ [u], p t := by
  intro t ht
  rcases List.mem_append.1 ht with ht | ht
  · exact h t ht
  · rw [List.mem_singleton.1 ht]; exact hn
/-! ### Lines -/
def linesF : List UInt8 → List UInt8 → List (List UInt8)
  | cur, [] => [cur]
  | cur, b :: r => if b = 10 then cur :: linesF [] r else linesF (cur ++ [b]) r
theorem linesF_len (cur r : List UInt8) : 1 ≤ (linesF cur r).length := by
  induction r generalizing cur with
  | nil => simp [linesF]
  | cons b r ih =>
    unfold linesF
    split
    · simp
    · exact ih _
theorem linesF_app : ∀ (t p r : List UInt8), t.all isRm = true → linesF p (t ++ r) = linesF (p ++ t) r
  | [], p, r, _ => by simp
  | b :: t, p, r, h => by
    simp only [List.all_cons, Bool.and_eq_true] at h
    have hb : ¬ b = 10 := by simpa [isRm] using h.1
    rw [List.cons_append]
    conv => lhs; unfold linesF
    rw [if_neg hb, linesF_app t _ r h.2, List.append_assoc]
    rfl
theorem linesF_head (p r : List UInt8) : (linesF p r)[0]? = some (p ++ r.takeWhile isRm) := by
  induction r generalizing p with
  | nil => simp [linesF]
  | cons b r ih =>
    unfold linesF
    by_cases hb : b = 10
    · subst hb
      rw [if_pos rfl, (drop_id (p := isRm) (b := 10) rfl).2]
      simp
    · have h : isRm b = true := by simpa [isRm] using hb
      rw [if_neg hb, ih, List.takeWhile_cons_of_pos h]
      simp

/-! ### What is asked of a token behind what was last -/
def Fits (lines : List (List UInt8)) (st : Nat × Nat × Bool) (t : Tk) : Prop :=
  1 ≤ t.line ∧ t.line ≤ lines.length ∧ 1 ≤ t.col ∧ (st.1 < t.line ∨ t.line = st.1 ∧ st.2.1 < t.col) ∧ (st.1 < t.line → st.2.2 = true) ∧
  ∃ row, lines[t.line - 1]? = some row ∧ (t.kind = 3 → t.col = row.length + 1 ∧ t.text = []) ∧ (t.kind ≠ 3 → t.col - 1 + t.text.length ≤ row.length ∧ (row.drop (t.col - 1)).take t.text.length = t.text ∧ 0 < t.text.length)
def after (t : Tk) : Nat × Nat × Bool := (t.line, t.col, t.kind == 3)
def Run (lines : List (List UInt8)) : Nat × Nat × Bool → List Tk → Nat × Nat × Bool → Prop
  | st, [], st' => st = st'
  | st, t :: r, st' => Fits lines st t ∧ Run lines (after t) r st'
theorem Run.snoc {lines : List (List UInt8)} {st' : Nat × Nat × Bool} {t : Tk} : ∀ {l : List Tk} {st : Nat × Nat × Bool}, Run lines st l st' → Fits lines st' t → Run lines st (l ++ [t]) (after t)
  | [], st, h, ht => by
    obtain rfl : st = st' := h
    exact ⟨ht, rfl⟩
  | a :: l, st, h, ht => ⟨h.1, Run.snoc h.2 ht⟩
theorem unended_snoc (acc : List Tk) (t : Tk) : unended (acc ++ [t]) = (t.kind != 3) := by simp [unended]

/-- What holds at a place of the scan. -/
structure At (lines : List (List UInt8)) (r : List UInt8) (L C : Nat) (acc : List Tk) : Prop where
  run : ∃ done p lL lC, lines = done ++ linesF p r ∧ L = done.length + 1 ∧ C = p.length + 1 ∧ Run lines (0, 0, true) acc (lL, lC, !unended acc) ∧ (lL < L ∨ lL = L ∧ lC < C) ∧ (lL < L → unended acc = false)

theorem At.skip {lines : List (List UInt8)} {t r : List UInt8} {L C : Nat} {acc : List Tk} (h : At lines (t ++ r) L C acc) (ht : t.all isRm = true) : At lines r L (C + t.length) acc := by
  obtain ⟨done, p, lL, lC, h1, h2, h3, h4, h5, h6⟩ := h.run
  rw [linesF_app t p r ht] at h1
  exact ⟨done, p ++ t, lL, lC, h1, h2, by rw [List.length_append]; omega, h4, by omega, h6⟩
theorem At.row {lines : List (List UInt8)} {r : List UInt8} {L C : Nat} {acc : List Tk} (h : At lines r L C acc) : ∃ row, L ≤ lines.length ∧ 1 ≤ L ∧ lines[L - 1]? = some (row ++ r.takeWhile isRm) ∧ C = row.length + 1 := by
  obtain ⟨done, p, lL, lC, h1, h2, h3, h4, h5, h6⟩ := h.run
  have hl := linesF_len p r
  refine ⟨p, by rw [h1, List.length_append]; omega, by omega, ?_, h3⟩
  rw [h1, h2, Nat.add_sub_cancel, List.getElem?_append_right (Nat.le_refl _), Nat.sub_self]
  exact linesF_head p r
/-- A token that is not an End, and its bytes are passed. -/
theorem At.token {lines : List (List UInt8)} {t r : List UInt8} {L C k : Nat} {acc : List Tk} (h : At lines (t ++ r) L C acc) (ht : t.all isRm = true) (h0 : 0 < t.length) (hk : k ≠ 3) : At lines r L (C + t.length) (acc ++ [⟨k, t, L, C⟩]) := by
  obtain ⟨row, g1, g2, g3, g4⟩ := h.row
  obtain ⟨done, p, lL, lC, h1, h2, h3, h4, h5, h6⟩ := (h.skip ht).run
  obtain ⟨_, _, lL', lC', _, _, _, k4, k5, k6⟩ := h.run
  have hfit : Fits lines (lL', lC', !unended acc) ⟨k, t, L, C⟩ := by
    refine ⟨g2, g1, by simp only; omega, by simp only; omega, fun hl => by rw [k6 hl]; rfl, _, g3, fun h => absurd h hk, fun _ => ?_⟩
    simp only
    have e : (t ++ r).takeWhile isRm = t ++ r.takeWhile isRm := List.takeWhile_append_of_pos (by simpa using ht)
    rw [e]
    refine ⟨by simp only [List.length_append]; omega, ?_, h0⟩
    rw [show C - 1 = row.length by omega, List.drop_append_of_le_length (Nat.le_refl _), List.drop_of_length_le (Nat.le_refl _), List.nil_append, List.take_append_of_le_length (Nat.le_refl _), List.take_of_length_le (Nat.le_refl _)]
  have hun : unended (acc ++ [⟨k, t, L, C⟩]) = true := by rw [unended_snoc]; simpa using hk
  refine ⟨done, p, L, C, h1, h2, h3, ?_, .inr ⟨rfl, by omega⟩, fun hl => absurd hl (by omega)⟩
  rw [hun]
  have := k4.snoc hfit
  have e : after ⟨k, t, L, C⟩ = (L, C, !true) := by unfold after; simp [hk]
  rw [e] at this
  exact this
/-- A line's end. -/
theorem At.ends {lines : List (List UInt8)} {r : List UInt8} {L C : Nat} {acc : List Tk} (h : At lines r L C acc) (hr : r.takeWhile isRm = []) : ∃ lL lC, Run lines (0, 0, true) (endUp acc L C) (lL, lC, true) ∧ lL ≤ L ∧ unended (endUp acc L C) = false := by
  obtain ⟨row, g1, g2, g3, g4⟩ := h.row
  obtain ⟨done, p, lL, lC, h1, h2, h3, h4, h5, h6⟩ := h.run
  unfold endUp
  cases hu : unended acc with
  | false =>
    rw [hu] at h4
    rw [if_neg (by simp)]
    exact ⟨lL, lC, h4, by omega, hu⟩
  | true =>
    rw [if_pos rfl]
    rw [hr, List.append_nil] at g3
    have hfit : Fits lines (lL, lC, !unended acc) ⟨3, [], L, C⟩ := by
      refine ⟨g2, g1, by simp only; omega, by simp only; omega, fun hl => ?_, row, g3, fun _ => ⟨g4, rfl⟩, fun h => absurd rfl h⟩
      have := h6 hl
      rw [hu] at this
      cases this
    exact ⟨L, C, h4.snoc hfit, Nat.le_refl _, by rw [unended_snoc]; rfl⟩
theorem At.line {lines : List (List UInt8)} {r : List UInt8} {L C : Nat} {acc : List Tk} (h : At lines (10 :: r) L C acc) : At lines r (L + 1) 1 (endUp acc L C) := by
  obtain ⟨lL, lC, k1, k2, k3⟩ := h.ends (drop_id (p := isRm) (b := 10) rfl).2
  obtain ⟨done, p, _, _, h1, h2, h3, _, _, _⟩ := h.run
  refine ⟨done ++ [p], [], lL, lC, by rw [h1]; simp [linesF], by simp [h2], rfl, by rw [k3]; exact k1, .inl (by omega), fun _ => k3⟩
end Go.Proofs.YtekhhekkepijoaaGreatDoor
