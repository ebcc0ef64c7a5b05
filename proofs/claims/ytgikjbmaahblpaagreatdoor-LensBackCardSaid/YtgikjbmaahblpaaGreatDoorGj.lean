/-
  Lines of words and numbers whatever blanks and remarks stand between, and the tokens that are read of them; lenses: plain lists.
  Lenses, and what is read of a lens's tokens, one by one: plain lists.
  The lenses that are handed in: of raw faces, right; their texts' length; which glasses they ask for.
  A text whose last line has no line feed; the lens of LensWords: plain lists.
  LensWords: the text that is made is the text of a lens of one face; what is read of it. Plain lists.
  LensBack in plain lists: with a glass less, a lens is read if it doesn't ask for it.
-/
import Derived.Test.YtgikjbmaahblpaaGreatDoorGg

namespace Go.Proofs.YtgikjbmaahblpaaGreatDoor
set_option linter.unusedVariables false
open Go.RowKit

/-! ### Lines, with blanks of some kind between and an end of some kind -/
abbrev It := Nat × List UInt8
def ktk (t : Tk) : It := (t.kind, t.text)
def restX (sep fin : List UInt8) : List It → List UInt8
  | [] => fin
  | y :: r => sep ++ (y.2 ++ restX sep fin r)
def lineX (sep fin : List UInt8) (l : It × List It) : List UInt8 := l.1.2 ++ restX sep fin l.2
def textX (sep fin : List UInt8) (ls : List (It × List It)) : List UInt8 := ls.flatMap (lineX sep fin)
def itsX (l : It × List It) : List It := l.1 :: (l.2 ++ [(3, [])])
def OkSep (sep : List UInt8) : Prop := sep.all isBl = true ∧ ∃ q, sep = 32 :: q
/-- What ends a line: it takes so much of what is counted down. -/
def OkFin (fin : List UInt8) : Prop := ∃ k s q, fin = s :: q ∧ (s = 32 ∨ s = 10) ∧ k ≤ fin.length ∧ ∀ (n : Nat) (r : List UInt8) (L C : Nat) (acc : List Tk), unended acc = true →
  ∃ t L', ktk t = (3, []) ∧ lexF (n + k) (fin ++ r) L C acc = lexF n r L' 1 (acc ++ [t])
theorem sep_one : OkSep [32] := ⟨rfl, [], rfl⟩
theorem sep_wide : OkSep [32, 9, 32] := ⟨rfl, _, rfl⟩
theorem fin_line : OkFin [10] := ⟨1, 10, [], rfl, .inr rfl, by decide, fun n r L C acc hu => ⟨⟨3, [], L, C⟩, L + 1, rfl, by
  rw [List.singleton_append, lexF_line]
  unfold endUp
  rw [if_pos hu]⟩⟩
theorem fin_wide : OkFin [32, 35, 32, 49, 10, 10] := ⟨2, 32, _, rfl, .inl rfl, by decide, fun n r L C acc hu => ⟨⟨3, [], L, C + 1 + 3⟩, L + 1 + 1, rfl, by
  simp only [List.cons_append, List.nil_append]
  rw [lexF_blank rfl, lexF_remark, remark_drop.1, remark_drop.2]
  have e1 : ((32 : UInt8) :: 49 :: 10 :: 10 :: r).dropWhile isRm = 10 :: 10 :: r := rfl
  have e2 : ((32 : UInt8) :: 49 :: 10 :: 10 :: r).takeWhile isRm = [32, 49] := rfl
  rw [e1, e2, lexF_line]
  have e3 : endUp acc L (C + 1 + ([35, 32, 49] : List UInt8).length) = acc ++ [⟨3, [], L, C + 1 + 3⟩] := by
    unfold endUp
    rw [if_pos hu]
    rfl
  rw [e3, lexF_line]
  unfold endUp
  rw [if_neg (by simp [unended])]⟩⟩
theorem sep_skip : ∀ (sep : List UInt8), sep.all isBl = true → ∀ (n : Nat) (r : List UInt8) (L C : Nat) (acc : List Tk), lexF (n + 1) (sep ++ r) L C acc = lexF (n + 1) r L (C + sep.length) acc
  | [], _, _, _, _, _, _ => rfl
  | b :: q, h, n, r, L, C, acc => by
    simp only [List.all_cons, Bool.and_eq_true] at h
    rw [List.cons_append, lexF_blank h.1, sep_skip q h.2, List.length_cons]
    congr 1
    omega
theorem it_ends (acc : List Tk) {x : It} (hx : OkIt x) (L C : Nat) : unended (acc ++ [⟨x.1, x.2, L, C⟩]) = true := by
  have := (it_pos hx).2
  simpa [unended] using this
theorem restX_lex {sep fin : List UInt8} (hs : OkSep sep) (hf : OkFin fin) : ∀ (r : List It) (x : It), OkIt x → (∀ y ∈ r, OkIt y) → ∀ (n : Nat) (q : List UInt8) (L C : Nat) (acc : List Tk), (x.2 ++ (restX sep fin r ++ q)).length < n →
    ∃ n' L' ts, q.length < n' ∧ ts.map ktk = x :: (r ++ [(3, [])]) ∧ lexF n (x.2 ++ (restX sep fin r ++ q)) L C acc = lexF n' q L' 1 (acc ++ ts)
  | [], x, hx, _, n, q, L, C, acc, hn => by
    have hp := it_pos hx
    obtain ⟨k, s, f, e, hs1, hk, hstep⟩ := hf
    unfold restX at hn ⊢
    simp only [List.length_append] at hn
    obtain ⟨j, rfl⟩ : ∃ j, n = (j + k) + 1 := ⟨n - k - 1, by omega⟩
    obtain ⟨t, L', ht, hl⟩ := hstep j q L (C + x.2.length) (acc ++ [⟨x.1, x.2, L, C⟩]) (it_ends acc hx L C)
    refine ⟨j, L', [⟨x.1, x.2, L, C⟩, t], by omega, ?_, ?_⟩
    · simp only [List.map_cons, List.map_nil, ht, List.nil_append]
      rfl
    · have e2 : fin ++ q = s :: (f ++ q) := by rw [e]; rfl
      rw [e2, it_step hx hs1, ← e2, hl, List.append_assoc]
      rfl
  | y :: r, x, hx, hr, n, q, L, C, acc, hn => by
    have hp := it_pos hx
    obtain ⟨hb, f, e⟩ := hs
    have hs2 : OkSep sep := ⟨hb, f, e⟩
    unfold restX at hn ⊢
    simp only [List.append_assoc, List.length_append] at hn ⊢
    have hl : 1 ≤ sep.length := by rw [e]; simp
    obtain ⟨j, rfl⟩ : ∃ j, n = j + 1 + 1 := ⟨n - 2, by omega⟩
    obtain ⟨n', L', ts, h1, h2, h3⟩ := restX_lex hs2 hf r y (hr y (by simp)) (fun z hz => hr z (by simp [hz])) (j + 1) q L (C + x.2.length + sep.length) (acc ++ [⟨x.1, x.2, L, C⟩]) (by simp only [List.length_append]; omega)
    refine ⟨n', L', ⟨x.1, x.2, L, C⟩ :: ts, h1, ?_, ?_⟩
    · rw [List.map_cons, h2]
      rfl
    · have e2 : sep ++ (y.2 ++ (restX sep fin r ++ q)) = 32 :: (f ++ (y.2 ++ (restX sep fin r ++ q))) := by rw [e]; rfl
      rw [e2, it_step hx (.inl rfl), ← e2, sep_skip sep hb, h3, List.append_assoc]
      rfl
theorem map_last {ts : List Tk} {a : List It} (h : ts.map ktk = a ++ [(3, [])]) (acc : List Tk) : unended (acc ++ ts) = false := by
  obtain ⟨u, v, rfl, -, hv⟩ := List.map_eq_append_iff.1 h
  obtain ⟨t, w, rfl, ht, hw⟩ := List.map_eq_cons_iff.1 hv
  obtain rfl := List.map_eq_nil_iff.1 hw
  have : t.kind = 3 := congrArg Prod.fst ht
  rw [← List.append_assoc]
  simp [unended, this]
def OkLines (ls : List (It × List It)) : Prop := ∀ l ∈ ls, OkIt l.1 ∧ ∀ y ∈ l.2, OkIt y
theorem textX_lex {sep fin : List UInt8} (hs : OkSep sep) (hf : OkFin fin) : ∀ (ls : List (It × List It)), OkLines ls → ∀ (n L : Nat) (acc : List Tk), (textX sep fin ls).length < n → unended acc = false →
    ∃ ts, ts.map ktk = ls.flatMap itsX ∧ lexF n (textX sep fin ls) L 1 acc = ⟨acc ++ ts, 0, 0, 0⟩
  | [], _, n, L, acc, hn, hu => by
    obtain ⟨m, rfl⟩ : ∃ m, n = m + 1 := ⟨n - 1, by omega⟩
    refine ⟨[], rfl, ?_⟩
    show lexF (m + 1) [] L 1 acc = _
    rw [lexF_nil]
    unfold endUp
    rw [if_neg (by rw [hu]; simp), List.append_nil]
  | l :: r, hl, n, L, acc, hn, hu => by
    have e : textX sep fin (l :: r) = l.1.2 ++ (restX sep fin l.2 ++ textX sep fin r) := by
      show lineX sep fin l ++ textX sep fin r = _
      unfold lineX
      rw [List.append_assoc]
    rw [e] at hn ⊢
    obtain ⟨n', L', ts, h1, h2, h3⟩ := restX_lex hs hf l.2 l.1 (hl l (by simp)).1 (hl l (by simp)).2 n (textX sep fin r) L 1 acc hn
    obtain ⟨us, h4, h5⟩ := textX_lex hs hf r (fun x hx => hl x (by simp [hx])) n' L' (acc ++ ts) h1 (map_last (a := l.1 :: l.2) (by rw [h2]; rfl) acc)
    refine ⟨ts ++ us, ?_, ?_⟩
    · rw [List.map_append, h2, h4]
      rfl
    · rw [h3, h5, List.append_assoc]
theorem textX_read {sep fin : List UInt8} (hs : OkSep sep) (hf : OkFin fin) {ls : List (It × List It)} (hl : OkLines ls) (hn : (textX sep fin ls).length ≤ 4000) : ∃ ts, ts.map ktk = ls.flatMap itsX ∧ lexP (textX sep fin ls) = ⟨ts, 0, 0, 0⟩ := by
  obtain ⟨ts, h1, h2⟩ := textX_lex hs hf ls hl _ 1 [] (Nat.lt_succ_self _) rfl
  refine ⟨ts, h1, ?_⟩
  unfold lexP
  rw [if_neg (by omega), h2, List.nil_append]

/-! ### The same text with wider blanks, remarks and empty lines -/
def widen (sep fin : List UInt8) (b : UInt8) : List UInt8 := if b = 32 then sep else if b = 10 then fin else [b]
theorem it_plain {x : It} (hx : OkIt x) : ∀ b ∈ x.2, b ≠ 32 ∧ b ≠ 10 := by
  have key : ∀ b : UInt8, isW b = true ∨ isNm b = true ∨ b = 45 ∨ isLet b = true ∨ isD b = true → b ≠ 32 ∧ b ≠ 10 := by
    intro b h
    refine ⟨?_, ?_⟩ <;> (rintro rfl; revert h; decide)
  intro b hb
  rcases hx with ⟨-, c, w, e, hc, hw, -⟩ | ⟨-, c, w, e, hc, hw, -⟩
  · rw [e] at hb
    rcases List.mem_cons.1 hb with rfl | hb
    · exact key _ (.inr (.inr (.inr (.inl hc))))
    · exact key _ (.inl (List.all_eq_true.1 hw b hb))
  · rw [e] at hb
    rcases List.mem_cons.1 hb with rfl | hb
    · rcases hc with h | h
      · exact key _ (.inr (.inr (.inl h)))
      · exact key _ (.inr (.inr (.inr (.inr h))))
    · exact key _ (.inr (.inl (List.all_eq_true.1 hw b hb)))
theorem widen_plain (sep fin : List UInt8) : ∀ (t : List UInt8), (∀ b ∈ t, b ≠ 32 ∧ b ≠ 10) → t.flatMap (widen sep fin) = t
  | [], _ => rfl
  | b :: r, h => by
    have hb := h b (by simp)
    rw [List.flatMap_cons, widen_plain sep fin r fun c hc => h c (by simp [hc])]
    unfold widen
    rw [if_neg hb.1, if_neg hb.2]
    rfl
theorem widen_rest (sep fin : List UInt8) : ∀ (r : List It), (∀ y ∈ r, OkIt y) → (restX [32] [10] r).flatMap (widen sep fin) = restX sep fin r
  | [], _ => by
    show widen sep fin 10 ++ [] = fin
    rw [List.append_nil]
    rfl
  | y :: r, h => by
    unfold restX
    rw [List.singleton_append, List.flatMap_cons, List.flatMap_append, widen_plain _ _ _ (it_plain (h y (by simp))), widen_rest sep fin r fun z hz => h z (by simp [hz])]
    rfl
theorem widen_text (sep fin : List UInt8) : ∀ (ls : List (It × List It)), OkLines ls → (textX [32] [10] ls).flatMap (widen sep fin) = textX sep fin ls
  | [], _ => rfl
  | l :: r, h => by
    show (lineX [32] [10] l ++ textX [32] [10] r).flatMap (widen sep fin) = lineX sep fin l ++ textX sep fin r
    unfold lineX
    rw [List.flatMap_append, List.flatMap_append, widen_plain _ _ _ (it_plain (h l (by simp)).1), widen_rest sep fin _ (h l (by simp)).2, widen_text sep fin r fun x hx => h x (by simp [hx])]
end Go.Proofs.YtgikjbmaahblpaaGreatDoor

namespace Go.Proofs.YtgikjbmaahblpaaGreatDoor
set_option linter.unusedVariables false
open Go.RowKit

structure Fc where
  stop : Bool
  radius : Dec
  aperture : Dec
  thick : Dec
  conic : Dec
  a4 : Dec
  a6 : Dec
  glass : List UInt8
structure Ln where
  name : List UInt8
  back : Dec
  faces : List Fc
def lensT : List UInt8 := [108, 101, 110, 115]
def faceT : List UInt8 := [102, 97, 99, 101]
def stopT : List UInt8 := [115, 116, 111, 112]
def conicT : List UInt8 := [99, 111, 110, 105, 99]
def a4T : List UInt8 := [97, 52]
def a6T : List UInt8 := [97, 54]
def isZ (d : Dec) : Bool := decide (d.c = 0) && decide (d.s = 0)
/-- Is a number's size below another number? -/
def sizeLess (r a : Dec) : Bool := decide ((r.c.natAbs : Int) * 10 ^ a.s.toNat < a.c * 10 ^ r.s.toNat)

/-! ### A lens's lines -/
def termI (w : List UInt8) (d : Dec) : List It := if isZ d = true then [] else [(1, w), (2, printP d)]
def faceI (f : Fc) : List It :=
  if f.stop = true then [(2, printP f.aperture), (2, printP f.thick)]
  else (2, printP f.radius) :: (2, printP f.aperture) :: (2, printP f.thick) :: (1, f.glass) :: (termI conicT f.conic ++ (termI a4T f.a4 ++ termI a6T f.a6))
def headI (f : Fc) : It := if f.stop = true then (1, stopT) else (1, faceT)
def faceLine (f : Fc) : It × List It := (headI f, faceI f)
def lensLines (x : Ln) : List (It × List It) := ((1, lensT), [(1, x.name), (2, printP x.back)]) :: x.faces.map faceLine
def textL (x : Ln) : List UInt8 := textX [32] [10] (lensLines x)

/-! ### What is read -/
structure Flt where
  line : Nat
  col : Nat
  err : Nat
abbrev Ex (α : Type) := Except Flt α
def bnd {α β : Type} (x : Ex α) (f : α → Ex β) : Ex β := match x with | .error e => .error e | .ok a => f a
def failAt {α : Type} (t : Tk) (e : Nat) : Ex α := .error ⟨t.line, t.col, e⟩
def takeK (k : Nat) : List Tk → Ex (Tk × List Tk)
  | [] => .error ⟨0, 0, 2⟩
  | t :: r => if t.kind = k then .ok (t, r) else failAt t 2
def decK (ts : List Tk) : Ex (Dec × Tk × List Tk) := bnd (takeK 2 ts) fun p => .ok ((readP p.1.text).1, p.1, p.2)
def posK (ts : List Tk) : Ex (Dec × List Tk) := bnd (decK ts) fun p => if p.1.c ≤ 0 then failAt p.2.1 1 else .ok (p.1, p.2.2)
def thickK (ts : List Tk) : Ex (Dec × List Tk) := bnd (decK ts) fun p => if p.1.c < 0 then failAt p.2.1 1 else .ok (p.1, p.2.2)
def atWord (w : List UInt8) (ts : List Tk) : Bool := match ts with | [] => false | t :: _ => decide (t.kind = 1) && decide (t.text = w)
def termK (w : List UInt8) (ts : List Tk) : Ex (Dec × List Tk) :=
  if atWord w ts = true then bnd (decK ts.tail) fun p => if p.1.c = 0 then failAt p.2.1 1 else .ok (p.1, p.2.2)
  else .ok (⟨0, 0⟩, ts)
def knownG (G : List (List UInt8)) (t : List UInt8) : Bool := decide (t ∈ G) || decide (t = airT)
def faceK (G : List (List UInt8)) (ts : List Tk) : Ex (Fc × List Tk) :=
  bnd (decK ts) fun r => bnd (posK r.2.2) fun a =>
  if r.1.c ≠ 0 ∧ sizeLess r.1 a.1 = true then failAt r.2.1 1
  else bnd (thickK a.2) fun t => bnd (takeK 1 t.2) fun g =>
  if knownG G g.1.text = false then failAt g.1 4
  else bnd (termK conicT g.2) fun k => bnd (termK a4T k.2) fun p => bnd (termK a6T p.2) fun q => bnd (takeK 3 q.2) fun z =>
  .ok (⟨false, r.1, a.1, t.1, k.1, p.1, q.1, g.1.text⟩, z.2)
def stopK (ts : List Tk) : Ex (Fc × List Tk) :=
  bnd (posK ts) fun a => bnd (thickK a.2) fun t => bnd (takeK 3 t.2) fun z =>
  .ok (⟨true, ⟨0, 0⟩, a.1, t.1, ⟨0, 0⟩, ⟨0, 0⟩, ⟨0, 0⟩, []⟩, z.2)
def lineK1 (G : List (List UInt8)) (n : Nat) (ts : List Tk) : Ex (Fc × List Tk) :=
  bnd (takeK 1 ts) fun h =>
  if h.1.text ≠ faceT ∧ h.1.text ≠ stopT then failAt h.1 2
  else if 12 ≤ n then failAt h.1 3
  else if h.1.text = faceT then faceK G h.2 else stopK h.2
def facesK (G : List (List UInt8)) : Nat → List Tk → List Fc → Ex (List Fc)
  | 0, _, acc => .ok acc
  | n + 1, ts, acc => if ts.isEmpty = true then .ok acc else bnd (lineK1 G acc.length ts) fun p => facesK G n p.2 (acc ++ [p.1])
def readToks (G : List (List UInt8)) (ts : List Tk) : Ex Ln :=
  bnd (takeK 1 ts) fun h => if h.1.text ≠ lensT then failAt h.1 2
  else bnd (takeK 1 h.2) fun m => bnd (posK m.2) fun b => bnd (takeK 3 b.2) fun z => bnd (facesK G (z.2.length + 1) z.2 []) fun l =>
  if l.all Fc.stop = true then .error ⟨0, 0, 1⟩ else .ok ⟨m.1.text, b.1, l⟩
def readLn (G : List (List UInt8)) (s : List UInt8) : Ex Ln :=
  if (lexP s).err = 0 then readToks G (lexP s).toks else .error ⟨(lexP s).line, (lexP s).col, (lexP s).err⟩

/-! ### Lenses that may be -/
structure OkFc (f : Fc) : Prop where
  a : OkDec f.aperture
  apos : 0 < f.aperture.c
  t : OkDec f.thick
  tpos : 0 ≤ f.thick.c
  radius : f.stop = false → OkDec f.radius ∧ (f.radius.c = 0 ∨ sizeLess f.radius f.aperture = false)
  glass : f.stop = false → OkName f.glass
  conic : f.stop = false → OkDec f.conic
  a4 : f.stop = false → OkDec f.a4
  a6 : f.stop = false → OkDec f.a6
  bare : f.stop = true → f.radius = ⟨0, 0⟩ ∧ f.conic = ⟨0, 0⟩ ∧ f.a4 = ⟨0, 0⟩ ∧ f.a6 = ⟨0, 0⟩ ∧ f.glass = []
structure OkLn (x : Ln) : Prop where
  name : OkName x.name
  back : OkDec x.back
  bpos : 0 < x.back.c
  faces : ∀ f ∈ x.faces, OkFc f
  most : x.faces.length ≤ 12
  some : x.faces.all Fc.stop = false
/-- Are a face's glasses known? -/
def knownF (G : List (List UInt8)) (f : Fc) : Bool := f.stop || knownG G f.glass

theorem ok_zero {d : Dec} (h : OkDec d) : isZ d = decide (d.c = 0) := by
  obtain ⟨c, s⟩ := d
  obtain ⟨-, h0, -, h1⟩ := decRight_bd h.1
  unfold isZ
  by_cases hc : c = 0
  · subst hc
    rcases h1 with rfl | h1
    · rfl
    · exact absurd rfl h1
  · simp [hc]
theorem name_it {t : List UInt8} (h : OkName t) : OkIt (1, t) := .inl ⟨rfl, h⟩
theorem ok_it {d : Dec} (h : OkDec d) : OkIt (2, printP d) := dec_it h.1 h.2
theorem term_ok {w : List UInt8} (hw : OkName w) {d : Dec} (h : OkDec d) : ∀ y ∈ termI w d, OkIt y := by
  unfold termI
  split
  · simp
  · intro y hy
    simp only [List.mem_cons, List.not_mem_nil, or_false] at hy
    rcases hy with rfl | rfl
    · exact name_it hw
    · exact ok_it h
theorem conic_name : OkName conicT := ⟨99, [111, 110, 105, 99], rfl, rfl, rfl, by decide⟩
theorem a4_name : OkName a4T := ⟨97, [52], rfl, rfl, rfl, by decide⟩
theorem a6_name : OkName a6T := ⟨97, [54], rfl, rfl, rfl, by decide⟩
theorem lens_name : OkName lensT := ⟨108, [101, 110, 115], rfl, rfl, rfl, by decide⟩
theorem face_name : OkName faceT := ⟨102, [97, 99, 101], rfl, rfl, rfl, by decide⟩
theorem stop_name : OkName stopT := ⟨115, [116, 111, 112], rfl, rfl, rfl, by decide⟩
theorem lensLines_ok {x : Ln} (h : OkLn x) : OkLines (lensLines x) := by
  intro l hl
  unfold lensLines at hl
  rcases List.mem_cons.1 hl with rfl | hl
  · refine ⟨name_it lens_name, fun y hy => ?_⟩
    simp only [List.mem_cons, List.not_mem_nil, or_false] at hy
    rcases hy with rfl | rfl
    · exact name_it h.name
    · exact ok_it h.back
  · obtain ⟨f, hf, rfl⟩ := List.mem_map.1 hl
    have hf := h.faces f hf
    refine ⟨?_, ?_⟩
    · show OkIt (headI f)
      unfold headI
      split
      · exact name_it stop_name
      · exact name_it face_name
    · show ∀ y ∈ faceI f, OkIt y
      unfold faceI
      split
      · intro y hy
        simp only [List.mem_cons, List.not_mem_nil, or_false] at hy
        rcases hy with rfl | rfl
        · exact ok_it hf.a
        · exact ok_it hf.t
      · rename_i hs
        have hs : f.stop = false := by simpa using hs
        intro y hy
        simp only [List.mem_cons, List.mem_append] at hy
        rcases hy with rfl | rfl | rfl | rfl | hy | hy | hy
        · exact ok_it (hf.radius hs).1
        · exact ok_it hf.a
        · exact ok_it hf.t
        · exact name_it (hf.glass hs)
        · exact term_ok conic_name (hf.conic hs) y hy
        · exact term_ok a4_name (hf.a4 hs) y hy
        · exact term_ok a6_name (hf.a6 hs) y hy

/-! ### Token by token, of a lens's own lines -/
theorem take_it {ts : List Tk} {x : It} {q : List It} (h : ts.map ktk = x :: q) : ∃ t r, ts = t :: r ∧ t.text = x.2 ∧ r.map ktk = q ∧ takeK x.1 ts = .ok (t, r) := by
  obtain ⟨t, r, rfl, h1, h2⟩ := List.map_eq_cons_iff.1 h
  exact ⟨t, r, rfl, congrArg Prod.snd h1, h2, by
    have hk : t.kind = x.1 := congrArg Prod.fst h1
    unfold takeK
    show (if t.kind = x.1 then _ else _) = _
    rw [if_pos hk]⟩
theorem dec_at {ts : List Tk} {d : Dec} {q : List It} (hd : OkDec d) (h : ts.map ktk = (2, printP d) :: q) : ∃ t r, decK ts = .ok (d, t, r) ∧ r.map ktk = q := by
  obtain ⟨t, r, -, h1, h2, h3⟩ := take_it h
  refine ⟨t, r, ?_, h2⟩
  unfold decK
  rw [h3]
  show Except.ok ((readP t.text).1, t, r) = _
  rw [h1, read_dec1 hd]
theorem pos_at {ts : List Tk} {d : Dec} {q : List It} (hd : OkDec d) (h0 : 0 < d.c) (h : ts.map ktk = (2, printP d) :: q) : ∃ r, posK ts = .ok (d, r) ∧ r.map ktk = q := by
  obtain ⟨t, r, h1, h2⟩ := dec_at hd h
  refine ⟨r, ?_, h2⟩
  unfold posK
  rw [h1]
  show (if d.c ≤ 0 then _ else _) = _
  rw [if_neg (by omega)]
theorem thick_at {ts : List Tk} {d : Dec} {q : List It} (hd : OkDec d) (h0 : 0 ≤ d.c) (h : ts.map ktk = (2, printP d) :: q) : ∃ r, thickK ts = .ok (d, r) ∧ r.map ktk = q := by
  obtain ⟨t, r, h1, h2⟩ := dec_at hd h
  refine ⟨r, ?_, h2⟩
  unfold thickK
  rw [h1]
  show (if d.c < 0 then _ else _) = _
  rw [if_neg (by omega)]
theorem atWord_at {ts : List Tk} {x : It} {q : List It} (w : List UInt8) (h : ts.map ktk = x :: q) : atWord w ts = (decide (x.1 = 1) && decide (x.2 = w)) := by
  obtain ⟨t, r, rfl, h1, -⟩ := List.map_eq_cons_iff.1 h
  subst h1
  rfl
/-- A term that is there, or not there: what stands behind begins with another word. -/
theorem term_at {ts : List Tk} {w : List UInt8} {d : Dec} {q : List It} (hd : OkDec d) (hq : ∃ x r, q = x :: r ∧ (decide (x.1 = 1) && decide (x.2 = w)) = false) (h : ts.map ktk = termI w d ++ q) : ∃ r, termK w ts = .ok (d, r) ∧ r.map ktk = q := by
  by_cases hz : isZ d = true
  · unfold termI at h
    rw [if_pos hz, List.nil_append] at h
    obtain ⟨x, r, rfl, hx⟩ := hq
    refine ⟨ts, ?_, h⟩
    unfold termK
    rw [atWord_at w h, hx, if_neg (by simp)]
    obtain ⟨c, s⟩ := d
    simp only [isZ, Bool.and_eq_true, decide_eq_true_eq] at hz
    rw [hz.1, hz.2]
  · unfold termI at h
    rw [if_neg hz] at h
    obtain ⟨t, r, rfl, -, h2⟩ := List.map_eq_cons_iff.1 h
    obtain ⟨u, v, h3, h4⟩ := dec_at hd h2
    refine ⟨v, ?_, h4⟩
    unfold termK
    rw [atWord_at w h, if_pos (by simp)]
    show bnd (decK r) _ = _
    rw [h3]
    show (if d.c = 0 then _ else _) = _
    rw [ok_zero hd] at hz
    rw [if_neg (by simpa using hz)]
theorem term_first {w v : List UInt8} (hv : v ≠ w) (d : Dec) {q : List It} (hq : ∃ x r, q = x :: r ∧ (decide (x.1 = 1) && decide (x.2 = w)) = false) : ∃ x r, termI v d ++ q = x :: r ∧ (decide (x.1 = 1) && decide (x.2 = w)) = false := by
  unfold termI
  split
  · exact hq
  · exact ⟨_, _, rfl, by simp [hv]⟩
theorem end_first (w : List UInt8) (q : List It) : ∃ x r, (3, ([] : List UInt8)) :: q = x :: r ∧ (decide (x.1 = 1) && decide (x.2 = w)) = false := ⟨_, _, rfl, rfl⟩
theorem face_at (G : List (List UInt8)) {f : Fc} (hf : OkFc f) (hs : f.stop = false) {ts : List Tk} {q : List It} (h : ts.map ktk = faceI f ++ ((3, []) :: q)) :
    if knownG G f.glass = true then ∃ r, faceK G ts = .ok (f, r) ∧ r.map ktk = q else ∃ t, faceK G ts = failAt t 4 := by
  unfold faceI at h
  rw [if_neg (by rw [hs]; simp)] at h
  simp only [List.cons_append, List.append_assoc] at h
  obtain ⟨t1, r1, e1, h⟩ := dec_at (hf.radius hs).1 h
  obtain ⟨r2, e2, h⟩ := pos_at hf.a hf.apos h
  obtain ⟨r3, e3, h⟩ := thick_at hf.t hf.tpos h
  obtain ⟨t4, r4, -, h4, h, e4⟩ := take_it h
  have hr : ¬ (f.radius.c ≠ 0 ∧ sizeLess f.radius f.aperture = true) := by
    rintro ⟨h1, h2⟩
    rcases (hf.radius hs).2 with h3 | h3
    · exact h1 h3
    · rw [h3] at h2; cases h2
  obtain ⟨r5, e5, h5⟩ := term_at (hf.conic hs) (term_first (by decide) _ (term_first (by decide) _ (end_first _ q))) h
  obtain ⟨r6, e6, h6⟩ := term_at (hf.a4 hs) (term_first (by decide) _ (end_first _ q)) h5
  obtain ⟨r7, e7, h7⟩ := term_at (hf.a6 hs) (end_first _ q) h6
  obtain ⟨t8, r8, -, -, h8, e8⟩ := take_it h7
  unfold faceK
  simp only [bnd, e1, e2, e3, e4, e5, e6, e7, e8, hr, if_false, h4]
  cases hk : knownG G f.glass with
  | true =>
    refine ⟨r8, ?_, h8⟩
    simp only [Bool.true_eq_false, if_false]
    rw [← hs]
  | false => exact ⟨t4, rfl⟩
theorem stop_at {f : Fc} (hf : OkFc f) (hs : f.stop = true) {ts : List Tk} {q : List It} (h : ts.map ktk = faceI f ++ ((3, []) :: q)) : ∃ r, stopK ts = .ok (f, r) ∧ r.map ktk = q := by
  unfold faceI at h
  rw [if_pos hs] at h
  simp only [List.cons_append, List.nil_append] at h
  obtain ⟨r2, e2, h⟩ := pos_at hf.a hf.apos h
  obtain ⟨r3, e3, h⟩ := thick_at hf.t hf.tpos h
  obtain ⟨t8, r8, -, -, h8, e8⟩ := take_it h
  refine ⟨r8, ?_, h8⟩
  unfold stopK
  simp only [bnd, e2, e3, e8]
  obtain ⟨h1, h2, h3, h4, h5⟩ := hf.bare hs
  rw [← h1, ← hs]
  congr 2
  cases f
  simp only [Fc.mk.injEq] at *
  simp [h1, h2, h3, h4, h5]
theorem line_at (G : List (List UInt8)) {f : Fc} (hf : OkFc f) {n : Nat} (hn : n < 12) {ts : List Tk} {q : List It} (h : ts.map ktk = itsX (faceLine f) ++ q) :
    if knownF G f = true then ∃ r, lineK1 G n ts = .ok (f, r) ∧ r.map ktk = q else ∃ t, lineK1 G n ts = failAt t 4 := by
  have h : ts.map ktk = headI f :: (faceI f ++ ((3, []) :: q)) := by
    rw [h]
    show headI f :: ((faceI f ++ [(3, [])]) ++ q) = _
    rw [List.append_assoc]
    rfl
  obtain ⟨t, r, -, h1, h2, h3⟩ := take_it h
  have hk : (headI f).1 = 1 := by unfold headI; split <;> rfl
  rw [hk] at h3
  unfold lineK1 knownF
  rw [h3]
  cases hs : f.stop with
  | true =>
    have ht : t.text = stopT := by rw [h1]; unfold headI; rw [if_pos hs]
    obtain ⟨r8, e8, h8⟩ := stop_at hf hs h2
    refine ⟨r8, ?_, h8⟩
    simp only [bnd, ht]
    rw [if_neg (by decide), if_neg (by omega), if_neg (by decide), e8]
  | false =>
    have ht : t.text = faceT := by rw [h1]; unfold headI; rw [if_neg (by rw [hs]; simp)]
    have key := face_at G hf hs h2
    simp only [bnd, ht, Bool.false_or]
    rw [if_neg (show ¬ (faceT ≠ faceT ∧ faceT ≠ stopT) from fun h => h.1 rfl), if_neg (show ¬ 12 ≤ n by omega)]
    exact key
theorem facesK_at (G : List (List UInt8)) : ∀ (l : List Fc) (n : Nat) (acc : List Fc) (ts : List Tk), (∀ f ∈ l, OkFc f) → l.length < n → acc.length + l.length ≤ 12 → ts.map ktk = (l.map faceLine).flatMap itsX →
    if l.all (knownF G) = true then facesK G n ts acc = .ok (acc ++ l) else ∃ t, facesK G n ts acc = failAt t 4
  | [], n, acc, ts, _, hn, _, h => by
    obtain ⟨m, rfl⟩ : ∃ m, n = m + 1 := ⟨n - 1, by simp only [List.length_nil] at hn; omega⟩
    obtain rfl := List.map_eq_nil_iff.1 h
    rw [if_pos (show ([] : List Fc).all (knownF G) = true from rfl), List.append_nil]
    rfl
  | f :: r, n, acc, ts, hf, hn, hl, h => by
    simp only [List.length_cons] at hn hl
    obtain ⟨m, rfl⟩ : ∃ m, n = m + 1 := ⟨n - 1, by omega⟩
    rw [List.map_cons, List.flatMap_cons] at h
    have hne : ts.isEmpty = false := by
      cases ts with
      | nil => simp [itsX] at h
      | cons => rfl
    have key := line_at G (hf f (by simp)) (show acc.length < 12 by omega) h
    have e : facesK G (m + 1) ts acc = bnd (lineK1 G acc.length ts) fun p => facesK G m p.2 (acc ++ [p.1]) := by
      conv => lhs; unfold facesK
      rw [if_neg (show ¬ ts.isEmpty = true by rw [hne]; simp)]
    rw [e, List.all_cons]
    cases hk : knownF G f with
    | false =>
      rw [hk] at key
      obtain ⟨t, ht⟩ : ∃ t, lineK1 G acc.length ts = failAt t 4 := key
      rw [ht]
      exact ⟨t, rfl⟩
    | true =>
      rw [hk] at key
      obtain ⟨q, hq, h2⟩ : ∃ q, lineK1 G acc.length ts = .ok (f, q) ∧ q.map ktk = (r.map faceLine).flatMap itsX := key
      rw [hq, Bool.true_and]
      have ih := facesK_at G r m (acc ++ [f]) q (fun x hx => hf x (by simp [hx])) (by omega) (by rw [List.length_append]; simp only [List.length_singleton]; omega) h2
      rw [List.append_assoc, List.singleton_append] at ih
      exact ih
/-- THE TOKENS OF A LENS'S TEXT: they are the lens, or a glass is not known. -/
theorem readToks_at (G : List (List UInt8)) {x : Ln} (hx : OkLn x) {ts : List Tk} (h : ts.map ktk = (lensLines x).flatMap itsX) :
    if x.faces.all (knownF G) = true then readToks G ts = .ok x else ∃ t, readToks G ts = failAt t 4 := by
  have h : ts.map ktk = (1, lensT) :: (1, x.name) :: (2, printP x.back) :: (3, []) :: (x.faces.map faceLine).flatMap itsX := by
    rw [h]
    rfl
  obtain ⟨t1, r1, -, w1, h, e1⟩ := take_it h
  obtain ⟨t2, r2, -, w2, h, e2⟩ := take_it h
  obtain ⟨r3, e3, h⟩ := pos_at hx.back hx.bpos h
  obtain ⟨t4, r4, -, -, h, e4⟩ := take_it h
  have hlen : x.faces.length < r4.length + 1 := by
    have : r4.length = ((x.faces.map faceLine).flatMap itsX).length := by rw [← h, List.length_map]
    rw [this]
    have key : ∀ l : List Fc, l.length ≤ ((l.map faceLine).flatMap itsX).length := by
      intro l
      induction l with
      | nil => simp
      | cons f r ih =>
        rw [List.map_cons, List.flatMap_cons, List.length_append, List.length_cons]
        have : 1 ≤ (itsX (faceLine f)).length := by simp [itsX]
        omega
    have := key x.faces
    omega
  have ih := facesK_at G x.faces (r4.length + 1) [] r4 hx.faces hlen (by have := hx.most; simpa using this) h
  unfold readToks
  simp only [bnd, e1, e2, e3, e4, w1, w2, List.nil_append] at ih ⊢
  rw [if_neg (show ¬ lensT ≠ lensT from fun h => h rfl)]
  split
  · rename_i hk
    rw [if_pos hk] at ih
    rw [ih]
    show (if x.faces.all Fc.stop = true then _ else _) = _
    rw [if_neg (by rw [hx.some]; simp)]
  · rename_i hk
    rw [if_neg hk] at ih
    obtain ⟨t, ht⟩ := ih
    rw [ht]
    exact ⟨t, rfl⟩
/-- A lens's text, with blanks and remarks of any kind, is read to the lens. -/
theorem readLn_at (G : List (List UInt8)) {x : Ln} (hx : OkLn x) {sep fin : List UInt8} (hs : OkSep sep) (hf : OkFin fin) (hn : (textX sep fin (lensLines x)).length ≤ 4000) :
    if x.faces.all (knownF G) = true then readLn G (textX sep fin (lensLines x)) = .ok x else ∃ t, readLn G (textX sep fin (lensLines x)) = failAt t 4 := by
  obtain ⟨ts, h1, h2⟩ := textX_read hs hf (lensLines_ok hx) hn
  have key := readToks_at G hx h1
  unfold readLn
  rw [h2]
  exact key
end Go.Proofs.YtgikjbmaahblpaaGreatDoor

namespace Go.Proofs.YtgikjbmaahblpaaGreatDoor
set_option linter.unusedVariables false
open Go.RowKit

/-! ### Decimals of one scale -/
theorem decH_val : ∀ (s : Nat) (c : Int), ∃ k, k ≤ s ∧ (decH c s).s = ((s - k : Nat) : Int) ∧ (decH c s).c * 10 ^ k = c
  | 0, c => ⟨0, by omega, rfl, by simp [decH]⟩
  | s + 1, c => by
    unfold decH
    split
    · rename_i h
      obtain ⟨k, h1, h2, h3⟩ := decH_val s (c.tdiv 10)
      refine ⟨k + 1, by omega, by rw [h2]; congr 1; omega, ?_⟩
      rw [Int.pow_succ, ← Int.mul_assoc, h3]
      have := Int.tmod_add_mul_tdiv c 10
      omega
    · exact ⟨0, by omega, rfl, by simp⟩
theorem ten_pos (k : Nat) : (0 : Int) < 10 ^ k := Int.pow_pos (by decide)
theorem decH_sign (s : Nat) (c : Int) : (0 < (decH c s).c ↔ 0 < c) ∧ ((decH c s).c = 0 ↔ c = 0) := by
  obtain ⟨k, -, -, h⟩ := decH_val s c
  have hp := ten_pos k
  constructor
  · constructor
    · intro h1
      have := Int.mul_pos h1 hp
      omega
    · intro h1
      rw [← h] at h1
      exact Int.pos_of_mul_pos_left h1 hp
  · constructor
    · intro h1
      rw [← h, h1, Int.zero_mul]
    · intro h1
      rcases Int.mul_eq_zero.1 (h.trans h1) with h | h
      · exact h
      · omega
theorem decH_nonneg (s : Nat) (c : Int) (h : 0 ≤ c) : 0 ≤ (decH c s).c := by
  have := decH_sign s c
  omega
theorem decH_not_less {s : Nat} {c a : Int} (h : a ≤ c.natAbs) : sizeLess (decH c s) (decH a s) = false := by
  obtain ⟨k, hk, hs, hc⟩ := decH_val s c
  obtain ⟨j, hj, ht, ha⟩ := decH_val s a
  unfold sizeLess
  rw [decide_eq_false_iff_not, hs, ht, Int.toNat_natCast, Int.toNat_natCast]
  intro hlt
  have hp := ten_pos k
  have hq := ten_pos j
  have h1 := Int.mul_lt_mul_of_pos_right (Int.mul_lt_mul_of_pos_right hlt hp) hq
  have e1 : (10 : Int) ^ (s - j) * 10 ^ j = 10 ^ s := by rw [← Int.pow_add, Nat.sub_add_cancel hj]
  have e2 : (10 : Int) ^ (s - k) * 10 ^ k = 10 ^ s := by rw [← Int.pow_add, Nat.sub_add_cancel hk]
  have e3 : ((decH c s).c.natAbs : Int) * 10 ^ k = c.natAbs := by
    have h9 : ((decH c s).c * 10 ^ k).natAbs = c.natAbs := by rw [hc]
    rw [Int.natAbs_mul] at h9
    have h10 : ((10 : Int) ^ k).natAbs = 10 ^ k := by rw [Int.natAbs_pow]; rfl
    rw [h10] at h9
    rw [← h9, Int.natCast_mul, Int.natCast_pow]
    rfl
  have l1 : ((decH c s).c.natAbs : Int) * 10 ^ (s - j) * 10 ^ k * 10 ^ j = c.natAbs * 10 ^ s := by
    rw [Int.mul_assoc, Int.mul_assoc, Int.mul_left_comm (10 ^ (s - j)), e1, ← Int.mul_assoc, e3]
  have l2 : (decH a s).c * 10 ^ (s - k) * 10 ^ k * 10 ^ j = a * 10 ^ s := by
    rw [Int.mul_assoc (decH a s).c, e2, Int.mul_assoc, Int.mul_comm (10 ^ s), ← Int.mul_assoc, ha]
  rw [l1, l2] at h1
  have h2 := Int.mul_le_mul_of_nonneg_right h (Int.le_of_lt (ten_pos s))
  omega

/-! ### The lens of raw faces -/
structure RawF where
  kind : Int
  r : Int
  a : Int
  t : Int
  g : Int
  k : Int
def D0 : Dec := ⟨0, 0⟩
def handGlass (G : List Gl) (n : Int) : List UInt8 := if n % (G.length + 2 : Int) < G.length then ((G.map Gl.name).getD (n % (G.length + 2 : Int)).toNat []) else airT
def handRadius (n : Int) : Dec := if 0 < n % 7 then (if n.tdiv 7 % 2 = 0 then decH (-150 - n % 900) 1 else decH (150 + n % 900) 1) else D0
def handF (G : List Gl) (i : Nat) (f : RawF) : Fc :=
  if f.kind % 6 = 5 ∧ 0 < i then ⟨true, D0, decH (30 + f.a % 70) 1, decH (f.t % 80) 1, D0, D0, D0, []⟩
  else ⟨false, handRadius f.r, decH (30 + f.a % 70) 1, decH (f.t % 80) 1, if f.k % 6 = 3 then decH (f.k.tdiv 6 % 30 - 15) 1 else D0, if f.k % 6 = 4 ∨ f.k % 6 = 5 then decH (f.k.tdiv 6 % 400 - 200) 2 else D0, if f.k % 6 = 5 then decH (f.k.tdiv 12 % 400 - 200) 1 else D0, handGlass G f.g⟩
def R0 : RawF := ⟨0, 0, 0, 0, 0, 0⟩
/-- Of the first k of l. -/
def handFs (G : List Gl) (l : List RawF) (k : Nat) : List Fc := (List.range k).map fun i => handF G i (l.getD i R0)
def plainFc : Fc := ⟨false, ⟨40, 0⟩, ⟨8, 0⟩, ⟨3, 0⟩, D0, D0, D0, [99, 114, 111, 119, 110]⟩
def handFaces (G : List Gl) (l : List RawF) (most : Nat) : List Fc := if min l.length most = 0 then [plainFc] else handFs G l (min l.length most)
def handLn (back : Int) (l : List RawF) (G : List Gl) (most : Nat) : Ln := ⟨120 :: Lib.decDigits (back % 100).toNat, decH (200 + back % 600) 1, handFaces G l most⟩
theorem handFs_succ (G : List Gl) (l : List RawF) (k : Nat) : handFs G l (k + 1) = handFs G l k ++ [handF G k (l.getD k R0)] := by simp [handFs, List.range_succ]
theorem handFs_len (G : List Gl) (l : List RawF) (k : Nat) : (handFs G l k).length = k := by simp [handFs]

theorem mod_bd (m : Int) {k : Int} (h : 0 < k) : 0 ≤ m % k ∧ m % k < k := ⟨Int.emod_nonneg _ (by omega), Int.emod_lt_of_pos _ h⟩
theorem ok_D0 : OkDec D0 := ⟨rfl, by decide⟩
theorem decH_ok1 {s : Nat} (hs : s ≤ 6) {c : Int} (h : -90000 ≤ c ∧ c ≤ 90000) : OkDec (decH c s) :=
  decH_ok hs (by omega) (Nat.le_trans (Nat.div_le_self _ _) (by omega))
theorem okName_of {g : Gl} (h : OkGl g) : OkName g.name := h.1
theorem air_name : OkName airT := ⟨97, [105, 114], rfl, rfl, rfl, by decide⟩
theorem handGlass_ok {G : List Gl} (hG : ∀ g ∈ G, OkGl g) (n : Int) : OkName (handGlass G n) ∧ (handGlass G n ∈ G.map Gl.name ∨ handGlass G n = airT) := by
  have h := mod_bd n (show (0 : Int) < (G.length + 2 : Int) by omega)
  unfold handGlass
  split
  · rename_i hl
    have hi : (n % (G.length + 2 : Int)).toNat < (G.map Gl.name).length := by rw [List.length_map]; omega
    rw [List.getD_eq_getElem?_getD, List.getElem?_eq_getElem hi, Option.getD_some]
    have hm := List.getElem_mem hi
    refine ⟨?_, .inl hm⟩
    obtain ⟨g, hg, he⟩ := List.mem_map.1 hm
    rw [← he]
    exact okName_of (hG g hg)
  · exact ⟨air_name, .inr rfl⟩
theorem handRadius_ok (n : Int) : OkDec (handRadius n) ∧ ∀ a : Int, 30 ≤ a ∧ a < 100 → (handRadius n).c = 0 ∨ sizeLess (handRadius n) (decH a 1) = false := by
  have h := mod_bd n (show (0 : Int) < 900 by omega)
  unfold handRadius
  split
  · split
    · exact ⟨decH_ok1 (by omega) (by omega), fun a ha => .inr (decH_not_less (by omega))⟩
    · exact ⟨decH_ok1 (by omega) (by omega), fun a ha => .inr (decH_not_less (by omega))⟩
  · exact ⟨ok_D0, fun _ _ => .inl rfl⟩
theorem handF_ok {G : List Gl} (hG : ∀ g ∈ G, OkGl g) (i : Nat) (f : RawF) : OkFc (handF G i f) := by
  have ha := mod_bd f.a (show (0 : Int) < 70 by omega)
  have ht := mod_bd f.t (show (0 : Int) < 80 by omega)
  have hk1 := mod_bd (f.k.tdiv 6) (show (0 : Int) < 30 by omega)
  have hk2 := mod_bd (f.k.tdiv 6) (show (0 : Int) < 400 by omega)
  have hk3 := mod_bd (f.k.tdiv 12) (show (0 : Int) < 400 by omega)
  unfold handF
  split
  · refine ⟨decH_ok1 (by omega) (by omega), (decH_sign _ _).1.2 (by omega), decH_ok1 (by omega) (by omega), decH_nonneg _ _ (by omega), ?_, ?_, ?_, ?_, ?_, fun _ => ⟨rfl, rfl, rfl, rfl, rfl⟩⟩ <;> (intro h; cases h)
  · refine ⟨decH_ok1 (by omega) (by omega), (decH_sign _ _).1.2 (by omega), decH_ok1 (by omega) (by omega), decH_nonneg _ _ (by omega), fun _ => ⟨(handRadius_ok _).1, (handRadius_ok _).2 _ (by omega)⟩, fun _ => (handGlass_ok hG _).1, fun _ => ?_, fun _ => ?_, fun _ => ?_, ?_⟩
    · show OkDec (if _ then _ else _)
      split
      · exact decH_ok1 (by omega) (by omega)
      · exact ok_D0
    · show OkDec (if _ then _ else _)
      split
      · exact decH_ok1 (by omega) (by omega)
      · exact ok_D0
    · show OkDec (if _ then _ else _)
      split
      · exact decH_ok1 (by omega) (by omega)
      · exact ok_D0
    · intro h
      cases h
theorem plainFc_ok : OkFc plainFc := by
  refine ⟨⟨rfl, by decide⟩, by decide, ⟨rfl, by decide⟩, by decide, fun _ => ⟨⟨rfl, by decide⟩, .inr (by decide)⟩, fun _ => ⟨99, [114, 111, 119, 110], rfl, rfl, rfl, by decide⟩, fun _ => ok_D0, fun _ => ok_D0, fun _ => ok_D0, ?_⟩
  intro h
  cases h
theorem handFaces_mem {G : List Gl} {l : List RawF} {most : Nat} {f : Fc} (h : f ∈ handFaces G l most) : f = plainFc ∨ ∃ i r, f = handF G i r := by
  unfold handFaces at h
  split at h
  · exact .inl (by simpa using h)
  · unfold handFs at h
    obtain ⟨i, -, rfl⟩ := List.mem_map.1 h
    exact .inr ⟨i, _, rfl⟩
theorem handFaces_some (G : List Gl) (l : List RawF) (most : Nat) : (handFaces G l most).all Fc.stop = false := by
  unfold handFaces
  split
  · rfl
  · rename_i h
    obtain ⟨k, e⟩ : ∃ k, min l.length most = k + 1 := ⟨min l.length most - 1, by omega⟩
    rw [e]
    unfold handFs
    rw [List.range_succ_eq_map, List.map_cons, List.all_cons]
    have : (handF G 0 (l.getD 0 R0)).stop = false := by
      unfold handF
      rw [if_neg (by omega)]
    rw [this]
    rfl
theorem handFaces_len (G : List Gl) (l : List RawF) {most : Nat} (h : most ≤ 12) : (handFaces G l most).length ≤ 12 ∧ 1 ≤ (handFaces G l most).length := by
  unfold handFaces
  split
  · simp
  · rw [handFs_len]
    omega
theorem handLn_ok (back : Int) (l : List RawF) {G : List Gl} (hG : ∀ g ∈ G, OkGl g) {most : Nat} (hm : most ≤ 12) : OkLn (handLn back l G most) := by
  have hb := mod_bd back (show (0 : Int) < 100 by omega)
  have hc := mod_bd back (show (0 : Int) < 600 by omega)
  refine ⟨⟨120, Lib.decDigits (back % 100).toNat, rfl, rfl, ?_, ?_⟩, decH_ok1 (by omega) (by omega), (decH_sign _ _).1.2 (by omega), fun f hf => ?_, (handFaces_len G l hm).1, handFaces_some G l most⟩
  · have := dig_all (back % 100).toNat
    rw [List.all_eq_true] at this ⊢
    exact fun b hb => isD_W (this b hb)
  · have := dig_len 1 (back % 100).toNat (by omega)
    omega
  · rcases handFaces_mem hf with rfl | ⟨i, r, rfl⟩
    · exact plainFc_ok
    · exact handF_ok hG i r
/-- Each face's glass is one of these, or air. -/
theorem handLn_known (back : Int) (l : List RawF) {G : List Gl} (hG : ∀ g ∈ G, OkGl g) (hc : [99, 114, 111, 119, 110] ∈ G.map Gl.name) (most : Nat) : (handLn back l G most).faces.all (knownF (G.map Gl.name)) = true := by
  rw [List.all_eq_true]
  intro f hf
  rcases handFaces_mem hf with rfl | ⟨i, r, rfl⟩
  · show (false || (decide _ || _)) = true
    rw [Bool.false_or, Bool.or_eq_true]
    exact .inl (decide_eq_true hc)
  · unfold handF
    split
    · rfl
    · unfold knownF knownG
      rcases (handGlass_ok hG r.g).2 with h | h
      · simp only
        rw [decide_eq_true h]
        rfl
      · simp only [h, decide_true, Bool.or_true]
def flintT : List UInt8 := [102, 108, 105, 110, 116]
/-- With a glass less, known are those that don't ask for it. -/
theorem less_known {G H : List (List UInt8)} (hsub : ∀ t ∈ H, t ∈ G) (hno : flintT ∉ H) (hrest : ∀ t ∈ G, t ≠ flintT → t ∈ H) {l : List Fc} (hl : l.all (knownF G) = true) (hst : ∀ f ∈ l, f.stop = true → f.glass ≠ flintT) :
    l.all (knownF H) = !(l.any fun f => f.glass == flintT) := by
  induction l with
  | nil => rfl
  | cons f r ih =>
    rw [List.all_cons, Bool.and_eq_true] at hl
    rw [List.all_cons, List.any_cons, ih hl.2 fun x hx => hst x (by simp [hx]), Bool.not_or]
    congr 1
    have h1 := hl.1
    unfold knownF knownG at h1 ⊢
    cases hs : f.stop with
    | true =>
      have := hst f (by simp) hs
      simp [this]
    | false =>
      rw [hs] at h1
      simp only [Bool.false_or, Bool.or_eq_true, decide_eq_true_eq] at h1 ⊢
      by_cases he : f.glass = flintT
      · rw [he, decide_eq_false hno]
        simp [flintT, airT]
      · have hb : (f.glass == flintT) = false := by simpa using he
        rw [hb]
        rcases h1 with h1 | h1
        · rw [decide_eq_true (hrest _ h1 he)]
          rfl
        · rw [decide_eq_true h1, Bool.or_true]
          rfl
theorem handF_bare (G : List Gl) (back : Int) (l : List RawF) (most : Nat) : ∀ f ∈ (handLn back l G most).faces, f.stop = true → f.glass ≠ flintT := by
  intro f hf hs
  rcases handFaces_mem hf with rfl | ⟨i, r, rfl⟩
  · cases hs
  · unfold handF at hs ⊢
    split
    · simp [flintT]
    · rename_i h
      rw [if_neg h] at hs
      cases hs

/-! ### How long a lens's text is -/
theorem rest_len : ∀ (r : List It) (M : Nat), (∀ y ∈ r, y.2.length ≤ M) → (restX [32] [10] r).length ≤ r.length * (M + 1) + 1
  | [], _, _ => by simp [restX]
  | y :: r, M, h => by
    have h1 := h y (by simp)
    have h2 := rest_len r M fun z hz => h z (by simp [hz])
    unfold restX
    simp only [List.length_append, List.length_cons, List.length_nil]
    rw [Nat.succ_mul]
    omega
theorem it_len {x : It} (hx : x.1 = 1 ∧ OkName x.2 ∨ ∃ d, x.2 = printP d) : x.2.length ≤ 20 := by
  rcases hx with ⟨-, c, w, e, -, -, h⟩ | ⟨d, e⟩
  · rw [e, List.length_cons]
    omega
  · rw [e]
    exact Nat.le_trans (printP_len14 d) (by omega)
theorem term_len (w : List UInt8) (d : Dec) : (termI w d).length ≤ 2 := by unfold termI; split <;> simp
theorem line_items {x : Ln} (hx : OkLn x) : ∀ l ∈ lensLines x, l.1.2.length ≤ 4 ∧ l.2.length ≤ 10 ∧ ∀ y ∈ l.2, y.2.length ≤ 20 := by
  intro l hl
  unfold lensLines at hl
  rcases List.mem_cons.1 hl with rfl | hl
  · refine ⟨by simp [lensT], by simp, fun y hy => ?_⟩
    simp only [List.mem_cons, List.not_mem_nil, or_false] at hy
    rcases hy with rfl | rfl
    · exact it_len (.inl ⟨rfl, hx.name⟩)
    · exact it_len (.inr ⟨_, rfl⟩)
  · obtain ⟨f, hf, rfl⟩ := List.mem_map.1 hl
    have hf := hx.faces f hf
    have t1 := term_len conicT f.conic
    have t2 := term_len a4T f.a4
    have t3 := term_len a6T f.a6
    have tm : ∀ (w : List UInt8) (d : Dec), w.length ≤ 20 → ∀ y ∈ termI w d, y.2.length ≤ 20 := by
      intro w d hw y hy
      unfold termI at hy
      split at hy
      · simp at hy
      · simp only [List.mem_cons, List.not_mem_nil, or_false] at hy
        rcases hy with rfl | rfl
        · exact hw
        · exact it_len (.inr ⟨_, rfl⟩)
    refine ⟨?_, ?_, ?_⟩
    · show (headI f).2.length ≤ 4
      unfold headI
      split <;> decide
    · show (faceI f).length ≤ 10
      unfold faceI
      split
      · simp
      · simp only [List.length_cons, List.length_append]
        omega
    · show ∀ y ∈ faceI f, y.2.length ≤ 20
      unfold faceI
      split
      · intro y hy
        simp only [List.mem_cons, List.not_mem_nil, or_false] at hy
        rcases hy with rfl | rfl <;> exact it_len (.inr ⟨_, rfl⟩)
      · rename_i hs
        have hs : f.stop = false := by simpa using hs
        intro y hy
        simp only [List.mem_cons, List.mem_append] at hy
        rcases hy with rfl | rfl | rfl | rfl | hy | hy | hy
        · exact it_len (.inr ⟨_, rfl⟩)
        · exact it_len (.inr ⟨_, rfl⟩)
        · exact it_len (.inr ⟨_, rfl⟩)
        · exact it_len (.inl ⟨rfl, hf.glass hs⟩)
        · exact tm _ _ (by decide) y hy
        · exact tm _ _ (by decide) y hy
        · exact tm _ _ (by decide) y hy
theorem lines_len : ∀ (ls : List (It × List It)), (∀ l ∈ ls, l.1.2.length ≤ 4 ∧ l.2.length ≤ 10 ∧ ∀ y ∈ l.2, y.2.length ≤ 20) → (textX [32] [10] ls).length ≤ ls.length * 215
  | [], _ => by simp [textX]
  | l :: r, h => by
    obtain ⟨h1, h2, h3⟩ := h l (by simp)
    have h4 := rest_len l.2 20 h3
    have h5 := lines_len r fun x hx => h x (by simp [hx])
    show (lineX [32] [10] l ++ textX [32] [10] r).length ≤ _
    unfold lineX
    simp only [List.length_append, List.length_cons]
    rw [Nat.succ_mul]
    omega
theorem textL_len {x : Ln} (hx : OkLn x) : (textL x).length ≤ 2795 := by
  have h1 := lines_len _ (line_items hx)
  have h2 : (lensLines x).length ≤ 13 := by
    unfold lensLines
    rw [List.length_cons, List.length_map]
    have := hx.most
    omega
  unfold textL
  omega

/-! ### W7: what is printed is read -/
theorem lens_back (G : List (List UInt8)) {x : Ln} (hx : OkLn x) (hk : x.faces.all (knownF G) = true) : readLn G (textL x) = .ok x := by
  have key := readLn_at G hx sep_one fin_line (by have := textL_len hx; unfold textL at this; omega)
  rw [if_pos hk] at key
  exact key
theorem lens_wide (G : List (List UInt8)) {x : Ln} (hx : OkLn x) (hk : x.faces.all (knownF G) = true) {sep : List UInt8} (hs : OkSep sep) (hl : ((textL x).flatMap (widen sep [32, 35, 32, 49, 10, 10])).length ≤ 4000) : readLn G ((textL x).flatMap (widen sep [32, 35, 32, 49, 10, 10])) = .ok x := by
  unfold textL at hl ⊢
  rw [widen_text _ _ _ (lensLines_ok hx)] at hl ⊢
  have key := readLn_at G hx hs fin_wide hl
  rw [if_pos hk] at key
  exact key
theorem lens_less (G : List (List UInt8)) {x : Ln} (hx : OkLn x) (hk : x.faces.all (knownF G) = false) : ∃ t, readLn G (textL x) = failAt t 4 := by
  have key := readLn_at G hx sep_one fin_line (by have := textL_len hx; unfold textL at this; omega)
  rw [hk] at key
  exact key
end Go.Proofs.YtgikjbmaahblpaaGreatDoor

namespace Go.Proofs.YtgikjbmaahblpaaGreatDoor
set_option linter.unusedVariables false
open Go.RowKit

theorem it_last {x : It} (hx : OkIt x) (n L C : Nat) (acc : List Tk) : lexF (n + 1) x.2 L C acc = lexF n [] L (C + x.2.length) (acc ++ [⟨x.1, x.2, L, C⟩]) := by
  have all : ∀ {p : UInt8 → Bool} {w : List UInt8}, w.all p = true → w.takeWhile p = w ∧ w.dropWhile p = [] := fun {p w} hw => by
    have hw' : ∀ a ∈ w, p a = true := by simpa using hw
    have e1 := List.takeWhile_append_of_pos (l₂ := []) hw'
    have e2 := List.dropWhile_append_of_pos (l₂ := []) hw'
    exact ⟨by simpa using e1, by simpa using e2⟩
  obtain ⟨k, t⟩ := x
  rcases hx with ⟨rfl, c, w, rfl, hc, hw, hl⟩ | ⟨rfl, c, w, rfl, hc, hw, hr⟩
  · obtain ⟨e1, e2⟩ := all hw
    rw [lexF_word hc, (word_drop hc).1, (word_drop hc).2, e1, e2, if_neg (by rw [List.length_cons]; omega)]
  · obtain ⟨e1, e2⟩ := all hw
    rw [lexF_number hc, e1, e2, if_pos hr]
    simp only [List.length_cons, Nat.add_comm 1]
theorem restE_lex {sep : List UInt8} (hs : OkSep sep) : ∀ (r : List It) (x : It), OkIt x → (∀ y ∈ r, OkIt y) → ∀ (n L C : Nat) (acc : List Tk), (x.2 ++ restX sep [] r).length < n →
    ∃ ts, ts.map ktk = x :: (r ++ [(3, [])]) ∧ lexF n (x.2 ++ restX sep [] r) L C acc = ⟨acc ++ ts, 0, 0, 0⟩
  | [], x, hx, _, n, L, C, acc, hn => by
    have hp := it_pos hx
    unfold restX at hn ⊢
    rw [List.append_nil] at hn ⊢
    obtain ⟨j, rfl⟩ : ∃ j, n = j + 1 + 1 := ⟨n - 2, by omega⟩
    refine ⟨[⟨x.1, x.2, L, C⟩, ⟨3, [], L, C + x.2.length⟩], rfl, ?_⟩
    rw [it_last hx, lexF_nil]
    unfold endUp
    rw [if_pos (it_ends acc hx L C), List.append_assoc]
    rfl
  | y :: r, x, hx, hr, n, L, C, acc, hn => by
    have hp := it_pos hx
    obtain ⟨hb, f, e⟩ := hs
    have hs2 : OkSep sep := ⟨hb, f, e⟩
    unfold restX at hn ⊢
    simp only [List.length_append] at hn
    have hl : 1 ≤ sep.length := by rw [e]; simp
    obtain ⟨j, rfl⟩ : ∃ j, n = j + 1 + 1 := ⟨n - 2, by omega⟩
    obtain ⟨ts, h2, h3⟩ := restE_lex hs2 r y (hr y (by simp)) (fun z hz => hr z (by simp [hz])) (j + 1) L (C + x.2.length + sep.length) (acc ++ [⟨x.1, x.2, L, C⟩]) (by simp only [List.length_append]; omega)
    refine ⟨⟨x.1, x.2, L, C⟩ :: ts, ?_, ?_⟩
    · rw [List.map_cons, h2]
      rfl
    · have e2 : sep ++ (y.2 ++ restX sep [] r) = 32 :: (f ++ (y.2 ++ restX sep [] r)) := by rw [e]; rfl
      rw [e2, it_step hx (.inl rfl), ← e2, sep_skip sep hb, h3, List.append_assoc]
      rfl
/-- A lens of one face, its text without a line feed at the end. -/
def textOne (name : List UInt8) (back : Dec) (f : Fc) : List UInt8 := lineX [32] [10] ((1, lensT), [(1, name), (2, printP back)]) ++ lineX [32] [] (faceLine f)
theorem textOne_read (G : List (List UInt8)) {name : List UInt8} {back : Dec} {f : Fc} (hx : OkLn ⟨name, back, [f]⟩) (hk : knownF G f = true) (hn : (textOne name back f).length ≤ 4000) : readLn G (textOne name back f) = .ok ⟨name, back, [f]⟩ := by
  have hl := lensLines_ok hx
  have l1 := hl ((1, lensT), [(1, name), (2, printP back)]) (by simp [lensLines])
  have l2 := hl (faceLine f) (by simp [lensLines])
  have e : textOne name back f = lensT ++ (restX [32] [10] [(1, name), (2, printP back)] ++ lineX [32] [] (faceLine f)) := by
    unfold textOne
    conv => lhs; unfold lineX
    rw [List.append_assoc]
    rfl
  obtain ⟨n', L', ts, h1, h2, h3⟩ := restX_lex sep_one fin_line _ _ l1.1 l1.2 ((textOne name back f).length + 1) (lineX [32] [] (faceLine f)) 1 1 [] (by rw [e]; exact Nat.lt_succ_self _)
  obtain ⟨us, h4, h5⟩ := restE_lex sep_one _ _ l2.1 l2.2 n' L' 1 ([] ++ ts) h1
  have hlex : lexP (textOne name back f) = ⟨ts ++ us, 0, 0, 0⟩ := by
    unfold lexP
    rw [if_neg (by omega)]
    conv => lhs; arg 2; rw [e]
    exact h3.trans h5
  have key := readToks_at G hx (ts := ts ++ us) (by
    rw [List.map_append, h2, h4]
    simp [lensLines, itsX])
  unfold readLn
  rw [hlex]
  rw [if_pos (by simp [hk])] at key
  exact key
/-- LensWords's face. -/
def wordsF (r a t k p q : Int) : Fc :=
  ⟨false, decH (300 + r % 9000) 2, decH (1 + a % 299) 2, decH (t % 2000) 3, if k.tmod 2 = 0 then decH (-1 - k % 50) 2 else D0, if p.tmod 2 = 0 then decH (1 + p % 500) 6 else D0, if q.tmod 2 = 0 then decH (-1 - q % 500) 1 else D0, if a % 2 = 0 then [99, 114, 111, 119, 110] else flintT⟩
def wordsN : List UInt8 := [97, 45, 98, 95, 49]
theorem wordsF_ok (r a t k p q : Int) : OkLn ⟨wordsN, ⟨75, 1⟩, [wordsF r a t k p q]⟩ := by
  have h1 := mod_bd r (show (0 : Int) < 9000 by omega)
  have h2 := mod_bd a (show (0 : Int) < 299 by omega)
  have h3 := mod_bd t (show (0 : Int) < 2000 by omega)
  have h4 := mod_bd k (show (0 : Int) < 50 by omega)
  have h5 := mod_bd p (show (0 : Int) < 500 by omega)
  have h6 := mod_bd q (show (0 : Int) < 500 by omega)
  refine ⟨⟨97, [45, 98, 95, 49], rfl, rfl, rfl, by decide⟩, (show OkDec ⟨75, 1⟩ from ⟨rfl, by decide⟩), (show (0 : Int) < 75 by decide), fun f hf => ?_, (show 1 ≤ 12 by decide), rfl⟩
  obtain rfl : f = wordsF r a t k p q := by simpa using hf
  refine ⟨decH_ok1 (by omega) (by omega), (decH_sign _ _).1.2 (by omega), decH_ok1 (by omega) (by omega), decH_nonneg _ _ (by omega), fun _ => ⟨decH_ok1 (by omega) (by omega), .inr (decH_not_less (by omega))⟩, fun _ => ?_, fun _ => ?_, fun _ => ?_, fun _ => ?_, ?_⟩
  · show OkName (if _ then _ else _)
    split
    · exact ⟨99, [114, 111, 119, 110], rfl, rfl, rfl, by decide⟩
    · exact ⟨102, [108, 105, 110, 116], rfl, rfl, rfl, by decide⟩
  · show OkDec (if _ then _ else _)
    split
    · exact decH_ok1 (by omega) (by omega)
    · exact ok_D0
  · show OkDec (if _ then _ else _)
    split
    · exact decH_ok1 (by omega) (by omega)
    · exact ok_D0
  · show OkDec (if _ then _ else _)
    split
    · exact decH_ok1 (by omega) (by omega)
    · exact ok_D0
  · intro h
    cases h
end Go.Proofs.YtgikjbmaahblpaaGreatDoor

namespace Go.Proofs.YtgikjbmaahblpaaGreatDoor
set_option linter.unusedVariables false
open Go.RowKit

theorem restX_app : ∀ (l r : List It), restX [32] [] (l ++ r) = restX [32] [] l ++ restX [32] [] r
  | [], r => rfl
  | y :: l, r => by
    show [32] ++ (y.2 ++ restX [32] [] (l ++ r)) = ([32] ++ (y.2 ++ restX [32] [] l)) ++ restX [32] [] r
    rw [restX_app l r]
    simp
theorem trm_text (w : List UInt8) (h : Prop) [Decidable h] {X : Dec} (hx : X.c ≠ 0) : restX [32] [] (termI w (if h then X else D0)) = if h then ([32] ++ (w ++ [32])) ++ printP (if h then X else D0) else [] := by
  have hz : isZ X = false := by
    unfold isZ
    simp [hx]
  by_cases hh : h
  · rw [if_pos hh, if_pos hh]
    unfold termI
    rw [hz, if_neg (by simp)]
    show [32] ++ (w ++ ([32] ++ (printP X ++ []))) = _
    simp
  · rw [if_neg hh, if_neg hh]
    rfl
theorem words_text (r a t k p q : Int) : textOne wordsN ⟨75, 1⟩ (wordsF r a t k p q) =
    (([108, 101, 110, 115, 32, 97, 45, 98, 95, 49, 32, 55, 46, 53, 10, 102, 97, 99, 101, 32] ++ (printP (decH (300 + r % 9000) 2) ++ ([32] ++ (printP (decH (1 + a % 299) 2) ++ ([32] ++ (printP (decH (t % 2000) 3) ++ ([32] ++ (if a % 2 = 0 then [99, 114, 111, 119, 110] else flintT)))))))
      ++ (if k.tmod 2 = 0 then [32, 99, 111, 110, 105, 99, 32] ++ printP (if k.tmod 2 = 0 then decH (-1 - k % 50) 2 else D0) else []))
      ++ (if p.tmod 2 = 0 then [32, 97, 52, 32] ++ printP (if p.tmod 2 = 0 then decH (1 + p % 500) 6 else D0) else []))
      ++ (if q.tmod 2 = 0 then [32, 97, 54, 32] ++ printP (if q.tmod 2 = 0 then decH (-1 - q % 500) 1 else D0) else []) := by
  have h4 := mod_bd k (show (0 : Int) < 50 by omega)
  have h5 := mod_bd p (show (0 : Int) < 500 by omega)
  have h6 := mod_bd q (show (0 : Int) < 500 by omega)
  have z4 : (decH (-1 - k % 50) 2).c ≠ 0 := fun h => by have := (decH_sign 2 _).2.1 h; omega
  have z5 : (decH (1 + p % 500) 6).c ≠ 0 := fun h => by have := (decH_sign 6 _).2.1 h; omega
  have z6 : (decH (-1 - q % 500) 1).c ≠ 0 := fun h => by have := (decH_sign 1 _).2.1 h; omega
  have e1 : lineX [32] [10] ((1, lensT), [(1, wordsN), (2, printP ⟨75, 1⟩)]) = [108, 101, 110, 115, 32, 97, 45, 98, 95, 49, 32, 55, 46, 53, 10] := by kernel_rfl
  have e2 : faceLine (wordsF r a t k p q) = ((1, faceT), ([(2, printP (decH (300 + r % 9000) 2)), (2, printP (decH (1 + a % 299) 2)), (2, printP (decH (t % 2000) 3)), (1, if a % 2 = 0 then [99, 114, 111, 119, 110] else flintT)] ++ (termI conicT (if k.tmod 2 = 0 then decH (-1 - k % 50) 2 else D0) ++ (termI a4T (if p.tmod 2 = 0 then decH (1 + p % 500) 6 else D0) ++ termI a6T (if q.tmod 2 = 0 then decH (-1 - q % 500) 1 else D0))))) := rfl
  unfold textOne
  rw [e1, e2]
  unfold lineX
  rw [restX_app, restX_app, restX_app, trm_text _ _ z4, trm_text _ _ z5, trm_text _ _ z6]
  have e3 : ∀ (x1 x2 x3 x4 : It), restX [32] [] [x1, x2, x3, x4] = [32] ++ (x1.2 ++ ([32] ++ (x2.2 ++ ([32] ++ (x3.2 ++ ([32] ++ (x4.2 ++ []))))))) := fun _ _ _ _ => rfl
  rw [e3]
  have e4 : faceT = [102, 97, 99, 101] := rfl
  have e5 : [32] ++ (conicT ++ [32]) = [32, 99, 111, 110, 105, 99, 32] := rfl
  have e6 : [32] ++ (a4T ++ [32]) = [32, 97, 52, 32] := rfl
  have e7 : [32] ++ (a6T ++ [32]) = [32, 97, 54, 32] := rfl
  rw [e4, e5, e6, e7]
  simp only [List.append_nil, List.append_assoc]
  rfl
theorem words_known (r a t k p q : Int) : knownF ((glassesG []).map Gl.name) (wordsF r a t k p q) = true := by
  have e : (glassesG []).map Gl.name = [[99, 114, 111, 119, 110], flintT] := by kernel_rfl
  rw [e]
  have eg : (wordsF r a t k p q).glass = if a % 2 = 0 then [99, 114, 111, 119, 110] else flintT := rfl
  unfold knownF knownG
  rw [eg]
  split <;> simp
/-- What is read of LensWords's text. -/
theorem words_read {r a t k p q c1 s1 c2 s2 c3 s3 c4 s4 c5 s5 c6 s6 : Int} {nm P1 P2 P3 T0 A4 T1 A5 T2 A6 T3 : List UInt8}
    (d1 : decH (300 + r % 9000) 2 = ⟨c1, s1⟩) (d2 : decH (1 + a % 299) 2 = ⟨c2, s2⟩) (d3 : decH (t % 2000) 3 = ⟨c3, s3⟩)
    (d4 : (if k.tmod 2 = 0 then decH (-1 - k % 50) 2 else D0) = ⟨c4, s4⟩) (d5 : (if p.tmod 2 = 0 then decH (1 + p % 500) 6 else D0) = ⟨c5, s5⟩) (d6 : (if q.tmod 2 = 0 then decH (-1 - q % 500) 1 else D0) = ⟨c6, s6⟩)
    (hn : nm = if a % 2 = 0 then [99, 114, 111, 119, 110] else flintT) (p1 : printP ⟨c1, s1⟩ = P1) (p2 : printP ⟨c2, s2⟩ = P2) (p3 : printP ⟨c3, s3⟩ = P3)
    (t0 : [108, 101, 110, 115, 32, 97, 45, 98, 95, 49, 32, 55, 46, 53, 10, 102, 97, 99, 101, 32] ++ (P1 ++ ([32] ++ (P2 ++ ([32] ++ (P3 ++ ([32] ++ nm)))))) = T0)
    (x4 : (if k.tmod 2 = 0 then [32, 99, 111, 110, 105, 99, 32] ++ printP ⟨c4, s4⟩ else []) = A4) (t1 : T0 ++ A4 = T1)
    (x5 : (if p.tmod 2 = 0 then [32, 97, 52, 32] ++ printP ⟨c5, s5⟩ else []) = A5) (t2 : T1 ++ A5 = T2)
    (x6 : (if q.tmod 2 = 0 then [32, 97, 54, 32] ++ printP ⟨c6, s6⟩ else []) = A6) (t3 : T2 ++ A6 = T3) (hl : T3.length ≤ 4000) :
    readLn ((glassesG []).map Gl.name) T3 = .ok ⟨wordsN, ⟨75, 1⟩, [⟨false, ⟨c1, s1⟩, ⟨c2, s2⟩, ⟨c3, s3⟩, ⟨c4, s4⟩, ⟨c5, s5⟩, ⟨c6, s6⟩, nm⟩]⟩ := by
  have e := words_text r a t k p q
  rw [d1, d2, d3, d4, d5, d6, p1, p2, p3, ← hn, t0, x4, t1, x5, t2, x6, t3] at e
  have ef : wordsF r a t k p q = ⟨false, ⟨c1, s1⟩, ⟨c2, s2⟩, ⟨c3, s3⟩, ⟨c4, s4⟩, ⟨c5, s5⟩, ⟨c6, s6⟩, nm⟩ := by
    unfold wordsF
    rw [d1, d2, d3, d4, d5, d6, ← hn]
  have h := textOne_read ((glassesG []).map Gl.name) (wordsF_ok r a t k p q) (words_known r a t k p q) (by rw [e]; exact hl)
  rw [e, ef] at h
  exact h
end Go.Proofs.YtgikjbmaahblpaaGreatDoor

namespace Go.Proofs.YtgikjbmaahblpaaGreatDoor
set_option linter.unusedVariables false
open Go.RowKit

def lessG (raw : List Int) : List Gl := crownG :: rawsG raw (min raw.length 3)
theorem raws_flint (raw : List Int) (k : Nat) (hk : k ≤ 3) : flintT ∉ (rawsG raw k).map Gl.name := by
  rw [raw_names raw k hk]
  intro h
  obtain ⟨i, -, h⟩ := List.mem_map.1 h
  simp [flintT] at h
theorem known_less (back : Int) (l : List RawF) (raw : List Int) (most : Nat) :
    (handLn back l (glassesG raw) most).faces.all (knownF ((lessG raw).map Gl.name)) = !((handLn back l (glassesG raw) most).faces.any fun f => f.glass == flintT) := by
  refine less_known (G := (glassesG raw).map Gl.name) (fun t ht => ?_) ?_ (fun t ht hn => ?_) (handLn_known back l (glassesG_ok raw) (by simp [glassesG, crownG]) most) (handF_bare _ back l most)
  · unfold lessG at ht
    unfold glassesG
    rw [List.map_cons] at ht ⊢
    rw [List.map_cons]
    rcases List.mem_cons.1 ht with rfl | ht
    · simp
    · simp [ht]
  · unfold lessG
    rw [List.map_cons]
    intro h
    rcases List.mem_cons.1 h with h | h
    · simp [flintT, crownG] at h
    · exact raws_flint raw _ (by omega) h
  · unfold glassesG at ht
    unfold lessG
    rw [List.map_cons, List.map_cons] at ht
    rw [List.map_cons]
    rcases List.mem_cons.1 ht with rfl | ht
    · simp
    · rcases List.mem_cons.1 ht with h | ht
      · exact absurd h hn
      · simp [ht]
theorem hand_ok (back : Int) (l : List RawF) (raw : List Int) : OkLn (handLn back l (glassesG raw) 12) := handLn_ok back l (glassesG_ok raw) (by omega)
theorem hand_known (back : Int) (l : List RawF) (raw : List Int) (most : Nat) : (handLn back l (glassesG raw) most).faces.all (knownF ((glassesG raw).map Gl.name)) = true := handLn_known back l (glassesG_ok raw) (by simp [glassesG, crownG]) most
/-- What LensBack asks of Read: the lens itself; the lens with wider blanks; ErrGlass with a glass less, if it is asked for. -/
theorem back_plain (back : Int) (l : List RawF) (raw : List Int) : readLn ((glassesG raw).map Gl.name) (textL (handLn back l (glassesG raw) 12)) = .ok (handLn back l (glassesG raw) 12) :=
  lens_back _ (hand_ok back l raw) (hand_known back l raw 12)
theorem back_wide (back : Int) (l : List RawF) (raw : List Int) {sep : List UInt8} (hs : OkSep sep) (hl : ((textL (handLn back l (glassesG raw) 12)).flatMap (widen sep [32, 35, 32, 49, 10, 10])).length ≤ 4000) :
    readLn ((glassesG raw).map Gl.name) ((textL (handLn back l (glassesG raw) 12)).flatMap (widen sep [32, 35, 32, 49, 10, 10])) = .ok (handLn back l (glassesG raw) 12) :=
  lens_wide _ (hand_ok back l raw) (hand_known back l raw 12) hs hl
theorem back_less (back : Int) (l : List RawF) (raw : List Int) : if ((handLn back l (glassesG raw) 12).faces.any fun f => f.glass == flintT) = true then ∃ t, readLn ((lessG raw).map Gl.name) (textL (handLn back l (glassesG raw) 12)) = failAt t 4
    else readLn ((lessG raw).map Gl.name) (textL (handLn back l (glassesG raw) 12)) = .ok (handLn back l (glassesG raw) 12) := by
  have hk := known_less back l raw 12
  split
  · rename_i h
    rw [h] at hk
    exact lens_less _ (hand_ok back l raw) hk
  · rename_i h
    rw [Bool.not_eq_true] at h
    rw [h] at hk
    exact lens_back _ (hand_ok back l raw) hk
theorem crown_okL : OkL [crownG] := by
  refine ⟨by decide, fun g hg => ?_, by decide, by decide⟩
  obtain rfl := List.mem_singleton.1 hg
  exact crown_ok
end Go.Proofs.YtgikjbmaahblpaaGreatDoor
