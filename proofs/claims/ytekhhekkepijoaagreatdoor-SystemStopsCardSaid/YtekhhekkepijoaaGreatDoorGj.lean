/-
  Lines of words and numbers whatever blanks and remarks stand between, and the tokens that are read of them; lenses: plain lists.
  Lenses, and what is read of a lens's tokens, one by one: plain lists.
  The lenses that are handed in: of raw faces, right; their texts' length; which glasses they ask for.
  LensBack in plain lists: with a glass less, a lens is read if it doesn't ask for it.
-/
import Derived.Test.YtekhhekkepijoaaGreatDoorGg

namespace Go.Proofs.YtekhhekkepijoaaGreatDoor
set_option linter.unusedVariables false
open Go.RowKit

/-! ### Lines, with blanks of some kind between and an end of some kind -/
abbrev It := Nat × List UInt8
def ktk (t : Tk) : It := (t.kind, t.text)
def restX (sep fin : List UInt8) : List It → List UInt8
  | [] => fin
  | y :: r => sep ++ (y.2 ++ restX sep fin r)
def lineX (sep fin : List UInt8) (l : It × List It) : List UInt8 := l.1.2 ++ restX sep fin l.2
def textX (sep fin : List UInt8) (ls : List (It × List It)) : List UInt8 := ls.flatMap (lineX sep fin)
def itsX (l : It × List It) : List It := l.1 :: (l.2 ++ [(3, [])])
def OkSep (sep : List UInt8) : Prop := sep.all isBl = true ∧ ∃ q, sep = 32 :: q
/-- What ends a line: it takes so much of what is counted down. -/
def OkFin (fin : List UInt8) : Prop := ∃ k s q, fin = s :: q ∧ (s = 32 ∨ s = 10) ∧ k ≤ fin.length ∧ ∀ (n : Nat) (r : List UInt8) (L C : Nat) (acc : List Tk), unended acc = true →
  ∃ t L', ktk t = (3, []) ∧ lexF (n + k) (fin ++ r) L C acc = lexF n r L' 1 (acc ++ [t])
theorem sep_one : OkSep [32] := ⟨rfl, [], rfl⟩
theorem fin_line : OkFin [10] := ⟨1, 10, [], rfl, .inr rfl, by decide, fun n r L C acc hu => ⟨⟨3, [], L, C⟩, L + 1, rfl, by
  rw [List.singleton_append, lexF_line]
  unfold endUp
  rw [if_pos hu]⟩⟩
theorem sep_skip : ∀ (sep : List UInt8), sep.all isBl = true → ∀ (n : Nat) (r : List UInt8) (L C : Nat) (acc : List Tk), lexF (n + 1) (sep ++ r) L C acc = lexF (n + 1) r L (C + sep.length) acc
  | [], _, _, _, _, _, _ => rfl
  | b :: q, h, n, r, L, C, acc => by
    simp only [List.all_cons, Bool.and_eq_true] at h
    rw [List.cons_append, lexF_blank h.1, sep_skip q h.2, List.length_cons]
    congr 1
    omega
theorem it_ends (acc : List Tk) {x : It} (hx : OkIt x) (L C : Nat) : unended (acc ++ [⟨x.1, x.2, L, C⟩]) = true := by
  have := (it_pos hx).2
  simpa [unended] using this
theorem restX_lex {sep fin : List UInt8} (hs : OkSep sep) (hf : OkFin fin) : ∀ (r : List It) (x : It), OkIt x → (∀ y ∈ r, OkIt y) → ∀ (n : Nat) (q : List UInt8) (L C : Nat) (acc : List Tk), (x.2 ++ (restX sep fin r ++ q)).length < n →
    ∃ n' L' ts, q.length < n' ∧ ts.map ktk = x :: (r ++ [(3, [])]) ∧ lexF n (x.2 ++ (restX sep fin r ++ q)) L C acc = lexF n' q L' 1 (acc ++ ts)
  | [], x, hx, _, n, q, L, C, acc, hn => by
    have hp := it_pos hx
    obtain ⟨k, s, f, e, hs1, hk, hstep⟩ := hf
    unfold restX at hn ⊢
    simp only [List.length_append] at hn
    obtain ⟨j, rfl⟩ : ∃ j, n = (j + k) + 1 := ⟨n - k - 1, by omega⟩
    obtain ⟨t, L', ht, hl⟩ := hstep j q L (C + x.2.length) (acc ++ [⟨x.1, x.2, L, C⟩]) (it_ends acc hx L C)
    refine ⟨j, L', [⟨x.1, x.2, L, C⟩, t], by omega, ?_, ?_⟩
    · simp only [List.map_cons, List.map_nil, ht, List.nil_append]
      rfl
    · have e2 : fin ++ q = s :: (f ++ q) := by rw [e]; rfl
      rw [e2, it_step hx hs1, ← e2, hl, List.append_assoc]
      rfl
  | y :: r, x, hx, hr, n, q, L, C, acc, hn => by
    have hp := it_pos hx
    obtain ⟨hb, f, e⟩ := hs
    have hs2 : OkSep sep := ⟨hb, f, e⟩
    unfold restX at hn ⊢
    simp only [List.append_assoc, List.length_append] at hn ⊢
    have hl : 1 ≤ sep.length := by rw [e]; simp
    obtain ⟨j, rfl⟩ : ∃ j, n = j + 1 + 1 := ⟨n - 2, by omega⟩
    obtain ⟨n', L', ts, h1, h2, h3⟩ := restX_lex hs2 hf r y (hr y (by simp)) (fun z hz => hr z (by simp [hz])) (j + 1) q L (C + x.2.length + sep.length) (acc ++ [⟨x.1, x.2, L, C⟩]) (by simp only [List.length_append]; omega)
    refine ⟨n', L', ⟨x.1, x.2, L, C⟩ :: ts, h1, ?_, ?_⟩
    · rw [List.map_cons, h2]
      rfl
    · have e2 : sep ++ (y.2 ++ (restX sep fin r ++ q)) = 32 :: (f ++ (y.2 ++ (restX sep fin r ++ q))) := by rw [e]; rfl
      rw [e2, it_step hx (.inl rfl), ← e2, sep_skip sep hb, h3, List.append_assoc]
      rfl
theorem map_last {ts : List Tk} {a : List It} (h : ts.map ktk = a ++ [(3, [])]) (acc : List Tk) : unended (acc ++ ts) = false := by
  obtain ⟨u, v, rfl, -, hv⟩ := List.map_eq_append_iff.1 h
  obtain ⟨t, w, rfl, ht, hw⟩ := List.map_eq_cons_iff.1 hv
  obtain rfl := List.map_eq_nil_iff.1 hw
  have : t.kind = 3 := congrArg Prod.fst ht
  rw [← List.append_assoc]
  simp [unended, this]
def OkLines (ls : List (It × List It)) : Prop := ∀ l ∈ ls, OkIt l.1 ∧ ∀ y ∈ l.2, OkIt y
theorem textX_lex {sep fin : List UInt8} (hs : OkSep sep) (hf : OkFin fin) : ∀ (ls : List (It × List It)), OkLines ls → ∀ (n L : Nat) (acc : List Tk), (textX sep fin ls).length < n → unended acc = false →
    ∃ ts, ts.map ktk = ls.flatMap itsX ∧ lexF n (textX sep fin ls) L 1 acc = ⟨acc ++ ts, 0, 0, 0⟩
  | [], _, n, L, acc, hn, hu => by
    obtain ⟨m, rfl⟩ : ∃ m, n = m + 1 := ⟨n - 1, by omega⟩
    refine ⟨[], rfl, ?_⟩
    show lexF (m + 1) [] L 1 acc = _
    rw [lexF_nil]
    unfold endUp
    rw [if_neg (by rw [hu]; simp), List.append_nil]
  | l :: r, hl, n, L, acc, hn, hu => by
    have e : textX sep fin (l :: r) = l.1.2 ++ (restX sep fin l.2 ++ textX sep fin r) := by
      show lineX sep fin l ++ textX sep fin r = _
      unfold lineX
      rw [List.append_assoc]
    rw [e] at hn ⊢
    obtain ⟨n', L', ts, h1, h2, h3⟩ := restX_lex hs hf l.2 l.1 (hl l (by simp)).1 (hl l (by simp)).2 n (textX sep fin r) L 1 acc hn
    obtain ⟨us, h4, h5⟩ := textX_lex hs hf r (fun x hx => hl x (by simp [hx])) n' L' (acc ++ ts) h1 (map_last (a := l.1 :: l.2) (by rw [h2]; rfl) acc)
    refine ⟨ts ++ us, ?_, ?_⟩
    · rw [List.map_append, h2, h4]
      rfl
    · rw [h3, h5, List.append_assoc]
theorem textX_read {sep fin : List UInt8} (hs : OkSep sep) (hf : OkFin fin) {ls : List (It × List It)} (hl : OkLines ls) (hn : (textX sep fin ls).length ≤ 4000) : ∃ ts, ts.map ktk = ls.flatMap itsX ∧ lexP (textX sep fin ls) = ⟨ts, 0, 0, 0⟩ := by
  obtain ⟨ts, h1, h2⟩ := textX_lex hs hf ls hl _ 1 [] (Nat.lt_succ_self _) rfl
  refine ⟨ts, h1, ?_⟩
  unfold lexP
  rw [if_neg (by omega), h2, List.nil_append]

/-! ### The same text with wider blanks, remarks and empty lines -/
end Go.Proofs.YtekhhekkepijoaaGreatDoor

namespace Go.Proofs.YtekhhekkepijoaaGreatDoor
set_option linter.unusedVariables false
open Go.RowKit

structure Fc where
  stop : Bool
  radius : Dec
  aperture : Dec
  thick : Dec
  conic : Dec
  a4 : Dec
  a6 : Dec
  glass : List UInt8
structure Ln where
  name : List UInt8
  back : Dec
  faces : List Fc
def lensT : List UInt8 := [108, 101, 110, 115]
def faceT : List UInt8 := [102, 97, 99, 101]
def stopT : List UInt8 := [115, 116, 111, 112]
def conicT : List UInt8 := [99, 111, 110, 105, 99]
def a4T : List UInt8 := [97, 52]
def a6T : List UInt8 := [97, 54]
def isZ (d : Dec) : Bool := decide (d.c = 0) && decide (d.s = 0)
/-- Is a number's size below another number? -/
def sizeLess (r a : Dec) : Bool := decide ((r.c.natAbs : Int) * 10 ^ a.s.toNat < a.c * 10 ^ r.s.toNat)

/-! ### A lens's lines -/
def termI (w : List UInt8) (d : Dec) : List It := if isZ d = true then [] else [(1, w), (2, printP d)]
def faceI (f : Fc) : List It :=
  if f.stop = true then [(2, printP f.aperture), (2, printP f.thick)]
  else (2, printP f.radius) :: (2, printP f.aperture) :: (2, printP f.thick) :: (1, f.glass) :: (termI conicT f.conic ++ (termI a4T f.a4 ++ termI a6T f.a6))
def headI (f : Fc) : It := if f.stop = true then (1, stopT) else (1, faceT)
def faceLine (f : Fc) : It × List It := (headI f, faceI f)
def lensLines (x : Ln) : List (It × List It) := ((1, lensT), [(1, x.name), (2, printP x.back)]) :: x.faces.map faceLine
def textL (x : Ln) : List UInt8 := textX [32] [10] (lensLines x)

/-! ### What is read -/
structure Flt where
  line : Nat
  col : Nat
  err : Nat
abbrev Ex (α : Type) := Except Flt α
def bnd {α β : Type} (x : Ex α) (f : α → Ex β) : Ex β := match x with | .error e => .error e | .ok a => f a
def failAt {α : Type} (t : Tk) (e : Nat) : Ex α := .error ⟨t.line, t.col, e⟩
def takeK (k : Nat) : List Tk → Ex (Tk × List Tk)
  | [] => .error ⟨0, 0, 2⟩
  | t :: r => if t.kind = k then .ok (t, r) else failAt t 2
def decK (ts : List Tk) : Ex (Dec × Tk × List Tk) := bnd (takeK 2 ts) fun p => .ok ((readP p.1.text).1, p.1, p.2)
def posK (ts : List Tk) : Ex (Dec × List Tk) := bnd (decK ts) fun p => if p.1.c ≤ 0 then failAt p.2.1 1 else .ok (p.1, p.2.2)
def thickK (ts : List Tk) : Ex (Dec × List Tk) := bnd (decK ts) fun p => if p.1.c < 0 then failAt p.2.1 1 else .ok (p.1, p.2.2)
def atWord (w : List UInt8) (ts : List Tk) : Bool := match ts with | [] => false | t :: _ => decide (t.kind = 1) && decide (t.text = w)
def termK (w : List UInt8) (ts : List Tk) : Ex (Dec × List Tk) :=
  if atWord w ts = true then bnd (decK ts.tail) fun p => if p.1.c = 0 then failAt p.2.1 1 else .ok (p.1, p.2.2)
  else .ok (⟨0, 0⟩, ts)
def knownG (G : List (List UInt8)) (t : List UInt8) : Bool := decide (t ∈ G) || decide (t = airT)
def faceK (G : List (List UInt8)) (ts : List Tk) : Ex (Fc × List Tk) :=
  bnd (decK ts) fun r => bnd (posK r.2.2) fun a =>
  if r.1.c ≠ 0 ∧ sizeLess r.1 a.1 = true then failAt r.2.1 1
  else bnd (thickK a.2) fun t => bnd (takeK 1 t.2) fun g =>
  if knownG G g.1.text = false then failAt g.1 4
  else bnd (termK conicT g.2) fun k => bnd (termK a4T k.2) fun p => bnd (termK a6T p.2) fun q => bnd (takeK 3 q.2) fun z =>
  .ok (⟨false, r.1, a.1, t.1, k.1, p.1, q.1, g.1.text⟩, z.2)
def stopK (ts : List Tk) : Ex (Fc × List Tk) :=
  bnd (posK ts) fun a => bnd (thickK a.2) fun t => bnd (takeK 3 t.2) fun z =>
  .ok (⟨true, ⟨0, 0⟩, a.1, t.1, ⟨0, 0⟩, ⟨0, 0⟩, ⟨0, 0⟩, []⟩, z.2)
def lineK1 (G : List (List UInt8)) (n : Nat) (ts : List Tk) : Ex (Fc × List Tk) :=
  bnd (takeK 1 ts) fun h =>
  if h.1.text ≠ faceT ∧ h.1.text ≠ stopT then failAt h.1 2
  else if 12 ≤ n then failAt h.1 3
  else if h.1.text = faceT then faceK G h.2 else stopK h.2
def facesK (G : List (List UInt8)) : Nat → List Tk → List Fc → Ex (List Fc)
  | 0, _, acc => .ok acc
  | n + 1, ts, acc => if ts.isEmpty = true then .ok acc else bnd (lineK1 G acc.length ts) fun p => facesK G n p.2 (acc ++ [p.1])
def readToks (G : List (List UInt8)) (ts : List Tk) : Ex Ln :=
  bnd (takeK 1 ts) fun h => if h.1.text ≠ lensT then failAt h.1 2
  else bnd (takeK 1 h.2) fun m => bnd (posK m.2) fun b => bnd (takeK 3 b.2) fun z => bnd (facesK G (z.2.length + 1) z.2 []) fun l =>
  if l.all Fc.stop = true then .error ⟨0, 0, 1⟩ else .ok ⟨m.1.text, b.1, l⟩
def readLn (G : List (List UInt8)) (s : List UInt8) : Ex Ln :=
  if (lexP s).err = 0 then readToks G (lexP s).toks else .error ⟨(lexP s).line, (lexP s).col, (lexP s).err⟩

/-! ### Lenses that may be -/
structure OkFc (f : Fc) : Prop where
  a : OkDec f.aperture
  apos : 0 < f.aperture.c
  t : OkDec f.thick
  tpos : 0 ≤ f.thick.c
  radius : f.stop = false → OkDec f.radius ∧ (f.radius.c = 0 ∨ sizeLess f.radius f.aperture = false)
  glass : f.stop = false → OkName f.glass
  conic : f.stop = false → OkDec f.conic
  a4 : f.stop = false → OkDec f.a4
  a6 : f.stop = false → OkDec f.a6
  bare : f.stop = true → f.radius = ⟨0, 0⟩ ∧ f.conic = ⟨0, 0⟩ ∧ f.a4 = ⟨0, 0⟩ ∧ f.a6 = ⟨0, 0⟩ ∧ f.glass = []
structure OkLn (x : Ln) : Prop where
  name : OkName x.name
  back : OkDec x.back
  bpos : 0 < x.back.c
  faces : ∀ f ∈ x.faces, OkFc f
  most : x.faces.length ≤ 12
  some : x.faces.all Fc.stop = false
/-- Are a face's glasses known? -/
def knownF (G : List (List UInt8)) (f : Fc) : Bool := f.stop || knownG G f.glass

theorem ok_zero {d : Dec} (h : OkDec d) : isZ d = decide (d.c = 0) := by
  obtain ⟨c, s⟩ := d
  obtain ⟨-, h0, -, h1⟩ := decRight_bd h.1
  unfold isZ
  by_cases hc : c = 0
  · subst hc
    rcases h1 with rfl | h1
    · rfl
    · exact absurd rfl h1
  · simp [hc]
theorem name_it {t : List UInt8} (h : OkName t) : OkIt (1, t) := .inl ⟨rfl, h⟩
theorem ok_it {d : Dec} (h : OkDec d) : OkIt (2, printP d) := dec_it h.1 h.2
theorem term_ok {w : List UInt8} (hw : OkName w) {d : Dec} (h : OkDec d) : ∀ y ∈ termI w d, OkIt y := by
  unfold termI
  split
  · simp
  · intro y hy
    simp only [List.mem_cons, List.not_mem_nil, or_false] at hy
    rcases hy with rfl | rfl
    · exact name_it hw
    · exact ok_it h
theorem conic_name : OkName conicT := ⟨99, [111, 110, 105, 99], rfl, rfl, rfl, by decide⟩
theorem a4_name : OkName a4T := ⟨97, [52], rfl, rfl, rfl, by decide⟩
theorem a6_name : OkName a6T := ⟨97, [54], rfl, rfl, rfl, by decide⟩
theorem lens_name : OkName lensT := ⟨108, [101, 110, 115], rfl, rfl, rfl, by decide⟩
theorem face_name : OkName faceT := ⟨102, [97, 99, 101], rfl, rfl, rfl, by decide⟩
theorem stop_name : OkName stopT := ⟨115, [116, 111, 112], rfl, rfl, rfl, by decide⟩
theorem lensLines_ok {x : Ln} (h : OkLn x) : OkLines (lensLines x) := by
  intro l hl
  unfold lensLines at hl
  rcases List.mem_cons.1 hl with rfl | hl
  · refine ⟨name_it lens_name, fun y hy => ?_⟩
    simp only [List.mem_cons, List.not_mem_nil, or_false] at hy
    rcases hy with rfl | rfl
    · exact name_it h.name
    · exact ok_it h.back
  · obtain ⟨f, hf, rfl⟩ := List.mem_map.1 hl
    have hf := h.faces f hf
    refine ⟨?_, ?_⟩
    · show OkIt (headI f)
      unfold headI
      split
      · exact name_it stop_name
      · exact name_it face_name
    · show ∀ y ∈ faceI f, OkIt y
      unfold faceI
      split
      · intro y hy
        simp only [List.mem_cons, List.not_mem_nil, or_false] at hy
        rcases hy with rfl | rfl
        · exact ok_it hf.a
        · exact ok_it hf.t
      · rename_i hs
        have hs : f.stop = false := by simpa using hs
        intro y hy
        simp only [List.mem_cons, List.mem_append] at hy
        rcases hy with rfl | rfl | rfl | rfl | hy | hy | hy
        · exact ok_it (hf.radius hs).1
        · exact ok_it hf.a
        · exact ok_it hf.t
        · exact name_it (hf.glass hs)
        · exact term_ok conic_name (hf.conic hs) y hy
        · exact term_ok a4_name (hf.a4 hs) y hy
        · exact term_ok a6_name (hf.a6 hs) y hy

/-! ### Token by token, of a lens's own lines -/
theorem take_it {ts : List Tk} {x : It} {q : List It} (h : ts.map ktk = x :: q) : ∃ t r, ts = t :: r ∧ t.text = x.2 ∧ r.map ktk = q ∧ takeK x.1 ts = .ok (t, r) := by
  obtain ⟨t, r, rfl, h1, h2⟩ := List.map_eq_cons_iff.1 h
  exact ⟨t, r, rfl, congrArg Prod.snd h1, h2, by
    have hk : t.kind = x.1 := congrArg Prod.fst h1
    unfold takeK
    show (if t.kind = x.1 then _ else _) = _
    rw [if_pos hk]⟩
theorem dec_at {ts : List Tk} {d : Dec} {q : List It} (hd : OkDec d) (h : ts.map ktk = (2, printP d) :: q) : ∃ t r, decK ts = .ok (d, t, r) ∧ r.map ktk = q := by
  obtain ⟨t, r, -, h1, h2, h3⟩ := take_it h
  refine ⟨t, r, ?_, h2⟩
  unfold decK
  rw [h3]
  show Except.ok ((readP t.text).1, t, r) = _
  rw [h1, read_dec1 hd]
theorem pos_at {ts : List Tk} {d : Dec} {q : List It} (hd : OkDec d) (h0 : 0 < d.c) (h : ts.map ktk = (2, printP d) :: q) : ∃ r, posK ts = .ok (d, r) ∧ r.map ktk = q := by
  obtain ⟨t, r, h1, h2⟩ := dec_at hd h
  refine ⟨r, ?_, h2⟩
  unfold posK
  rw [h1]
  show (if d.c ≤ 0 then _ else _) = _
  rw [if_neg (by omega)]
theorem thick_at {ts : List Tk} {d : Dec} {q : List It} (hd : OkDec d) (h0 : 0 ≤ d.c) (h : ts.map ktk = (2, printP d) :: q) : ∃ r, thickK ts = .ok (d, r) ∧ r.map ktk = q := by
  obtain ⟨t, r, h1, h2⟩ := dec_at hd h
  refine ⟨r, ?_, h2⟩
  unfold thickK
  rw [h1]
  show (if d.c < 0 then _ else _) = _
  rw [if_neg (by omega)]
theorem atWord_at {ts : List Tk} {x : It} {q : List It} (w : List UInt8) (h : ts.map ktk = x :: q) : atWord w ts = (decide (x.1 = 1) && decide (x.2 = w)) := by
  obtain ⟨t, r, rfl, h1, -⟩ := List.map_eq_cons_iff.1 h
  subst h1
  rfl
/-- A term that is there, or not there: what stands behind begins with another word. -/
theorem term_at {ts : List Tk} {w : List UInt8} {d : Dec} {q : List It} (hd : OkDec d) (hq : ∃ x r, q = x :: r ∧ (decide (x.1 = 1) && decide (x.2 = w)) = false) (h : ts.map ktk = termI w d ++ q) : ∃ r, termK w ts = .ok (d, r) ∧ r.map ktk = q := by
  by_cases hz : isZ d = true
  · unfold termI at h
    rw [if_pos hz, List.nil_append] at h
    obtain ⟨x, r, rfl, hx⟩ := hq
    refine ⟨ts, ?_, h⟩
    unfold termK
    rw [atWord_at w h, hx, if_neg (by simp)]
    obtain ⟨c, s⟩ := d
    simp only [isZ, Bool.and_eq_true, decide_eq_true_eq] at hz
    rw [hz.1, hz.2]
  · unfold termI at h
    rw [if_neg hz] at h
    obtain ⟨t, r, rfl, -, h2⟩ := List.map_eq_cons_iff.1 h
    obtain ⟨u, v, h3, h4⟩ := dec_at hd h2
    refine ⟨v, ?_, h4⟩
    unfold termK
    rw [atWord_at w h, if_pos (by simp)]
    show bnd (decK r) _ = _
    rw [h3]
    show (if d.c = 0 then _ else _) = _
    rw [ok_zero hd] at hz
    rw [if_neg (by simpa using hz)]
theorem term_first {w v : List UInt8} (hv : v ≠ w) (d : Dec) {q : List It} (hq : ∃ x r, q = x :: r ∧ (decide (x.1 = 1) && decide (x.2 = w)) = false) : ∃ x r, termI v d ++ q = x :: r ∧ (decide (x.1 = 1) && decide (x.2 = w)) = false := by
  unfold termI
  split
  · exact hq
  · exact ⟨_, _, rfl, by simp [hv]⟩
theorem end_first (w : List UInt8) (q : List It) : ∃ x r, (3, ([] : List UInt8)) :: q = x :: r ∧ (decide (x.1 = 1) && decide (x.2 = w)) = false := ⟨_, _, rfl, rfl⟩
theorem face_at (G : List (List UInt8)) {f : Fc} (hf : OkFc f) (hs : f.stop = false) {ts : List Tk} {q : List It} (h : ts.map ktk = faceI f ++ ((3, []) :: q)) :
    if knownG G f.glass = true then ∃ r, faceK G ts = .ok (f, r) ∧ r.map ktk = q else ∃ t, faceK G ts = failAt t 4 := by
  unfold faceI at h
  rw [if_neg (by rw [hs]; simp)] at h
  simp only [List.cons_append, List.append_assoc] at h
  obtain ⟨t1, r1, e1, h⟩ := dec_at (hf.radius hs).1 h
  obtain ⟨r2, e2, h⟩ := pos_at hf.a hf.apos h
  obtain ⟨r3, e3, h⟩ := thick_at hf.t hf.tpos h
  obtain ⟨t4, r4, -, h4, h, e4⟩ := take_it h
  have hr : ¬ (f.radius.c ≠ 0 ∧ sizeLess f.radius f.aperture = true) := by
    rintro ⟨h1, h2⟩
    rcases (hf.radius hs).2 with h3 | h3
    · exact h1 h3
    · rw [h3] at h2; cases h2
  obtain ⟨r5, e5, h5⟩ := term_at (hf.conic hs) (term_first (by decide) _ (term_first (by decide) _ (end_first _ q))) h
  obtain ⟨r6, e6, h6⟩ := term_at (hf.a4 hs) (term_first (by decide) _ (end_first _ q)) h5
  obtain ⟨r7, e7, h7⟩ := term_at (hf.a6 hs) (end_first _ q) h6
  obtain ⟨t8, r8, -, -, h8, e8⟩ := take_it h7
  unfold faceK
  simp only [bnd, e1, e2, e3, e4, e5, e6, e7, e8, hr, if_false, h4]
  cases hk : knownG G f.glass with
  | true =>
    refine ⟨r8, ?_, h8⟩
    simp only [Bool.true_eq_false, if_false]
    rw [← hs]
  | false => exact ⟨t4, rfl⟩
theorem stop_at {f : Fc} (hf : OkFc f) (hs : f.stop = true) {ts : List Tk} {q : List It} (h : ts.map ktk = faceI f ++ ((3, []) :: q)) : ∃ r, stopK ts = .ok (f, r) ∧ r.map ktk = q := by
  unfold faceI at h
  rw [if_pos hs] at h
  simp only [List.cons_append, List.nil_append] at h
  obtain ⟨r2, e2, h⟩ := pos_at hf.a hf.apos h
  obtain ⟨r3, e3, h⟩ := thick_at hf.t hf.tpos h
  obtain ⟨t8, r8, -, -, h8, e8⟩ := take_it h
  refine ⟨r8, ?_, h8⟩
  unfold stopK
  simp only [bnd, e2, e3, e8]
  obtain ⟨h1, h2, h3, h4, h5⟩ := hf.bare hs
  rw [← h1, ← hs]
  congr 2
  cases f
  simp only [Fc.mk.injEq] at *
  simp [h1, h2, h3, h4, h5]
theorem line_at (G : List (List UInt8)) {f : Fc} (hf : OkFc f) {n : Nat} (hn : n < 12) {ts : List Tk} {q : List It} (h : ts.map ktk = itsX (faceLine f) ++ q) :
    if knownF G f = true then ∃ r, lineK1 G n ts = .ok (f, r) ∧ r.map ktk = q else ∃ t, lineK1 G n ts = failAt t 4 := by
  have h : ts.map ktk = headI f :: (faceI f ++ ((3, []) :: q)) := by
    rw [h]
    show headI f :: ((faceI f ++ [(3, [])]) ++ q) = _
    rw [List.append_assoc]
    rfl
  obtain ⟨t, r, -, h1, h2, h3⟩ := take_it h
  have hk : (headI f).1 = 1 := by unfold headI; split <;> rfl
  rw [hk] at h3
  unfold lineK1 knownF
  rw [h3]
  cases hs : f.stop with
  | true =>
    have ht : t.text = stopT := by rw [h1]; unfold headI; rw [if_pos hs]
    obtain ⟨r8, e8, h8⟩ := stop_at hf hs h2
    refine ⟨r8, ?_, h8⟩
    simp only [bnd, ht]
    rw [if_neg (by decide), if_neg (by omega), if_neg (by decide), e8]
  | false =>
    have ht : t.text = faceT := by rw [h1]; unfold headI; rw [if_neg (by rw [hs]; simp)]
    have key := face_at G hf hs h2
    simp only [bnd, ht, Bool.false_or]
    rw [if_neg (show ¬ (faceT ≠ faceT ∧ faceT ≠ stopT) from fun h => h.1 rfl), if_neg (show ¬ 12 ≤ n by omega)]
    exact key
theorem facesK_at (G : List (List UInt8)) : ∀ (l : List Fc) (n : Nat) (acc : List Fc) (ts : List Tk), (∀ f ∈ l, OkFc f) → l.length < n → acc.length + l.length ≤ 12 → ts.map ktk = (l.map faceLine).flatMap itsX →
    if l.all (knownF G) = true then facesK G n ts acc = .ok (acc ++ l) else ∃ t, facesK G n ts acc = failAt t 4
  | [], n, acc, ts, _, hn, _, h => by
    obtain ⟨m, rfl⟩ : ∃ m, n = m + 1 := ⟨n - 1, by simp only [List.length_nil] at hn; omega⟩
    obtain rfl := List.map_eq_nil_iff.1 h
    rw [if_pos (show ([] : List Fc).all (knownF G) = true from rfl), List.append_nil]
    rfl
  | f :: r, n, acc, ts, hf, hn, hl, h => by
    simp only [List.length_cons] at hn hl
    obtain ⟨m, rfl⟩ : ∃ m, n = m + 1 := ⟨n - 1, by omega⟩
    rw [List.map_cons, List.flatMap_cons] at h
    have hne : ts.isEmpty = false := by
      cases ts with
      | nil => simp [itsX] at h
      | cons => rfl
    have key := line_at G (hf f (by simp)) (show acc.length < 12 by omega) h
    have e : facesK G (m + 1) ts acc = bnd (lineK1 G acc.length ts) fun p => facesK G m p.2 (acc ++ [p.1]) := by
      conv => lhs; unfold facesK
      rw [if_neg (show ¬ ts.isEmpty = true by rw [hne]; simp)]
    rw [e, List.all_cons]
    cases hk : knownF G f with
    | false =>
      rw [hk] at key
      obtain ⟨t, ht⟩ : ∃ t, lineK1 G acc.length ts = failAt t 4 := key
      rw [ht]
      exact ⟨t, rfl⟩
    | true =>
      rw [hk] at key
      obtain ⟨q, hq, h2⟩ : ∃ q, lineK1 G acc.length ts = .ok (f, q) ∧ q.map ktk = (r.map faceLine).flatMap itsX := key
      rw [hq, Bool.true_and]
      have ih := facesK_at G r m (acc ++ [f]) q (fun x hx => hf x (by simp [hx])) (by omega) (by rw [List.length_append]; simp only [List.length_singleton]; omega) h2
      rw [List.append_assoc, List.singleton_append] at ih
      exact ih
/-- THE TOKENS OF A LENS'S TEXT: they are the lens, or a glass is not known. -/
theorem readToks_at (G : List (List UInt8)) {x : Ln} (hx : OkLn x) {ts : List Tk} (h : ts.map ktk = (lensLines x).flatMap itsX) :
    if x.faces.all (knownF G) = true then readToks G ts = .ok x else ∃ t, readToks G ts = failAt t 4 := by
  have h : ts.map ktk = (1, lensT) :: (1, x.name) :: (2, printP x.back) :: (3, []) :: (x.faces.map faceLine).flatMap itsX := by
    rw [h]
    rfl
  obtain ⟨t1, r1, -, w1, h, e1⟩ := take_it h
  obtain ⟨t2, r2, -, w2, h, e2⟩ := take_it h
  obtain ⟨r3, e3, h⟩ := pos_at hx.back hx.bpos h
  obtain ⟨t4, r4, -, -, h, e4⟩ := take_it h
  have hlen : x.faces.length < r4.length + 1 := by
    have : r4.length = ((x.faces.map faceLine).flatMap itsX).length := by rw [← h, List.length_map]
    rw [this]
    have key : ∀ l : List Fc, l.length ≤ ((l.map faceLine).flatMap itsX).length := by
      intro l
      induction l with
      | nil => simp
      | cons f r ih =>
        rw [List.map_cons, List.flatMap_cons, List.length_append, List.length_cons]
        have : 1 ≤ (itsX (faceLine f)).length := by simp [itsX]
        omega
    have := key x.faces
    omega
  have ih := facesK_at G x.faces (r4.length + 1) [] r4 hx.faces hlen (by have := hx.most; simpa using this) h
  unfold readToks
  simp only [bnd, e1, e2, e3, e4, w1, w2, List.nil_append] at ih ⊢
  rw [if_neg (show ¬ lensT ≠ lensT from fun h => h rfl)]
  split
  · rename_i hk
    rw [if_pos hk] at ih
    rw [ih]
    show (if x.faces.all Fc.stop = true then _ else _) = _
    rw [if_neg (by rw [hx.some]; simp)]
  · rename_i hk
    rw [if_neg hk] at ih
    obtain ⟨t, ht⟩ := ih
    rw [ht]
    exact ⟨t, rfl⟩
/-- A lens's text, with blanks and remarks of any kind, is read to the lens. -/
theorem readLn_at (G : List (List UInt8)) {x : Ln} (hx : OkLn x) {sep fin : List UInt8} (hs : OkSep sep) (hf : OkFin fin) (hn : (textX sep fin (lensLines x)).length ≤ 4000) :
    if x.faces.all (knownF G) = true then readLn G (textX sep fin (lensLines x)) = .ok x else ∃ t, readLn G (textX sep fin (lensLines x)) = failAt t 4 := by
  obtain ⟨ts, h1, h2⟩ := textX_read hs hf (lensLines_ok hx) hn
  have key := readToks_at G hx h1
  unfold readLn
  rw [h2]
  exact key
end Go.Proofs.YtekhhekkepijoaaGreatDoor

namespace Go.Proofs.YtekhhekkepijoaaGreatDoor
set_option linter.unusedVariables false
open Go.RowKit

/-! ### Decimals of one scale -/
theorem decH_val : ∀ (s : Nat) (c : Int), ∃ k, k ≤ s ∧ (decH c s).s = ((s - k : Nat) : Int) ∧ (decH c s).c * 10 ^ k = c
  | 0, c => ⟨0, by omega, rfl, by simp [decH]⟩
  | s + 1, c => by
    unfold decH
    split
    · rename_i h
      obtain ⟨k, h1, h2, h3⟩ := decH_val s (c.tdiv 10)
      refine ⟨k + 1, by omega, by rw [h2]; congr 1; omega, ?_⟩
      rw [Int.pow_succ, ← Int.mul_assoc, h3]
      have := Int.tmod_add_mul_tdiv c 10
      omega
    · exact ⟨0, by omega, rfl, by simp⟩
theorem ten_pos (k : Nat) : (0 : Int) < 10 ^ k := Int.pow_pos (by decide)
theorem decH_sign (s : Nat) (c : Int) : (0 < (decH c s).c ↔ 0 < c) ∧ ((decH c s).c = 0 ↔ c = 0) := by
  obtain ⟨k, -, -, h⟩ := decH_val s c
  have hp := ten_pos k
  constructor
  · constructor
    · intro h1
      have := Int.mul_pos h1 hp
      omega
    · intro h1
      rw [← h] at h1
      exact Int.pos_of_mul_pos_left h1 hp
  · constructor
    · intro h1
      rw [← h, h1, Int.zero_mul]
    · intro h1
      rcases Int.mul_eq_zero.1 (h.trans h1) with h | h
      · exact h
      · omega
theorem decH_nonneg (s : Nat) (c : Int) (h : 0 ≤ c) : 0 ≤ (decH c s).c := by
  have := decH_sign s c
  omega
theorem decH_not_less {s : Nat} {c a : Int} (h : a ≤ c.natAbs) : sizeLess (decH c s) (decH a s) = false := by
  obtain ⟨k, hk, hs, hc⟩ := decH_val s c
  obtain ⟨j, hj, ht, ha⟩ := decH_val s a
  unfold sizeLess
  rw [decide_eq_false_iff_not, hs, ht, Int.toNat_natCast, Int.toNat_natCast]
  intro hlt
  have hp := ten_pos k
  have hq := ten_pos j
  have h1 := Int.mul_lt_mul_of_pos_right (Int.mul_lt_mul_of_pos_right hlt hp) hq
  have e1 : (10 : Int) ^ (s - j) * 10 ^ j = 10 ^ s := by rw [← Int.pow_add, Nat.sub_add_cancel hj]
  have e2 : (10 : Int) ^ (s - k) * 10 ^ k = 10 ^ s := by rw [← Int.pow_add, Nat.sub_add_cancel hk]
  have e3 : ((decH c s).c.natAbs : Int) * 10 ^ k = c.natAbs := by
    have h9 : ((decH c s).c * 10 ^ k).natAbs = c.natAbs := by rw [hc]
    rw [Int.natAbs_mul] at h9
    have h10 : ((10 : Int) ^ k).natAbs = 10 ^ k := by rw [Int.natAbs_pow]; rfl
    rw [h10] at h9
    rw [← h9, Int.natCast_mul, Int.natCast_pow]
    rfl
  have l1 : ((decH c s).c.natAbs : Int) * 10 ^ (s - j) * 10 ^ k * 10 ^ j = c.natAbs * 10 ^ s := by
    rw [Int.mul_assoc, Int.mul_assoc, Int.mul_left_comm (10 ^ (s - j)), e1, ← Int.mul_assoc, e3]
  have l2 : (decH a s).c * 10 ^ (s - k) * 10 ^ k * 10 ^ j = a * 10 ^ s := by
    rw [Int.mul_assoc (decH a s).c, e2, Int.mul_assoc, Int.mul_comm (10 ^ s), ← Int.mul_assoc, ha]
  rw [l1, l2] at h1
  have h2 := Int.mul_le_mul_of_nonneg_right h (Int.le_of_lt (ten_pos s))
  omega

/-! ### The lens of raw faces -/
structure RawF where
  kind : Int
  r : Int
  a : Int
  t : Int
  g : Int
  k : Int
def D0 : Dec := ⟨0, 0⟩
def handGlass (G : List Gl) (n : Int) : List UInt8 := if n % (G.length + 2 : Int) < G.length then ((G.map Gl.name).getD (n % (G.length + 2 : Int)).toNat []) else airT
def handRadius (n : Int) : Dec := if 0 < n % 7 then (if n.tdiv 7 % 2 = 0 then decH (-150 - n % 900) 1 else decH (150 + n % 900) 1) else D0
def handF (G : List Gl) (i : Nat) (f : RawF) : Fc :=
  if f.kind % 6 = 5 ∧ 0 < i then ⟨true, D0, decH (30 + f.a % 70) 1, decH (f.t % 80) 1, D0, D0, D0, []⟩
  else ⟨false, handRadius f.r, decH (30 + f.a % 70) 1, decH (f.t % 80) 1, if f.k % 6 = 3 then decH (f.k.tdiv 6 % 30 - 15) 1 else D0, if f.k % 6 = 4 ∨ f.k % 6 = 5 then decH (f.k.tdiv 6 % 400 - 200) 2 else D0, if f.k % 6 = 5 then decH (f.k.tdiv 12 % 400 - 200) 1 else D0, handGlass G f.g⟩
def R0 : RawF := ⟨0, 0, 0, 0, 0, 0⟩
/-- Of the first k of l. -/
def handFs (G : List Gl) (l : List RawF) (k : Nat) : List Fc := (List.range k).map fun i => handF G i (l.getD i R0)
def plainFc : Fc := ⟨false, ⟨40, 0⟩, ⟨8, 0⟩, ⟨3, 0⟩, D0, D0, D0, [99, 114, 111, 119, 110]⟩
def handFaces (G : List Gl) (l : List RawF) (most : Nat) : List Fc := if min l.length most = 0 then [plainFc] else handFs G l (min l.length most)
def handLn (back : Int) (l : List RawF) (G : List Gl) (most : Nat) : Ln := ⟨120 :: Lib.decDigits (back % 100).toNat, decH (200 + back % 600) 1, handFaces G l most⟩
theorem handFs_succ (G : List Gl) (l : List RawF) (k : Nat) : handFs G l (k + 1) = handFs G l k ++ [handF G k (l.getD k R0)] := by simp [handFs, List.range_succ]
theorem handFs_len (G : List Gl) (l : List RawF) (k : Nat) : (handFs G l k).length = k := by simp [handFs]

theorem mod_bd (m : Int) {k : Int} (h : 0 < k) : 0 ≤ m % k ∧ m % k < k := ⟨Int.emod_nonneg _ (by omega), Int.emod_lt_of_pos _ h⟩
theorem ok_D0 : OkDec D0 := ⟨rfl, by decide⟩
theorem decH_ok1 {s : Nat} (hs : s ≤ 6) {c : Int} (h : -90000 ≤ c ∧ c ≤ 90000) : OkDec (decH c s) :=
  decH_ok hs (by omega) (Nat.le_trans (Nat.div_le_self _ _) (by omega))
theorem okName_of {g : Gl} (h : OkGl g) : OkName g.name := h.1
theorem air_name : OkName airT := ⟨97, [105, 114], rfl, rfl, rfl, by decide⟩
theorem handGlass_ok {G : List Gl} (hG : ∀ g ∈ G, OkGl g) (n : Int) : OkName (handGlass G n) ∧ (handGlass G n ∈ G.map Gl.name ∨ handGlass G n = airT) := by
  have h := mod_bd n (show (0 : Int) < (G.length + 2 : Int) by omega)
  unfold handGlass
  split
  · rename_i hl
    have hi : (n % (G.length + 2 : Int)).toNat < (G.map Gl.name).length := by rw [List.length_map]; omega
    rw [List.getD_eq_getElem?_getD, List.getElem?_eq_getElem hi, Option.getD_some]
    have hm := List.getElem_mem hi
    refine ⟨?_, .inl hm⟩
    obtain ⟨g, hg, he⟩ := List.mem_map.1 hm
    rw [← he]
    exact okName_of (hG g hg)
  · exact ⟨air_name, .inr rfl⟩
theorem handRadius_ok (n : Int) : OkDec (handRadius n) ∧ ∀ a : Int, 30 ≤ a ∧ a < 100 → (handRadius n).c = 0 ∨ sizeLess (handRadius n) (decH a 1) = false := by
  have h := mod_bd n (show (0 : Int) < 900 by omega)
  unfold handRadius
  split
  · split
    · exact ⟨decH_ok1 (by omega) (by omega), fun a ha => .inr (decH_not_less (by omega))⟩
    · exact ⟨decH_ok1 (by omega) (by omega), fun a ha => .inr (decH_not_less (by omega))⟩
  · exact ⟨ok_D0, fun _ _ => .inl rfl⟩
theorem handF_ok {G : List Gl} (hG : ∀ g ∈ G, OkGl g) (i : Nat) (f : RawF) : OkFc (handF G i f) := by
  have ha := mod_bd f.a (show (0 : Int) < 70 by omega)
  have ht := mod_bd f.t (show (0 : Int) < 80 by omega)
  have hk1 := mod_bd (f.k.tdiv 6) (show (0 : Int) < 30 by omega)
  have hk2 := mod_bd (f.k.tdiv 6) (show (0 : Int) < 400 by omega)
  have hk3 := mod_bd (f.k.tdiv 12) (show (0 : Int) < 400 by omega)
  unfold handF
  split
  · refine ⟨decH_ok1 (by omega) (by omega), (decH_sign _ _).1.2 (by omega), decH_ok1 (by omega) (by omega), decH_nonneg _ _ (by omega), ?_, ?_, ?_, ?_, ?_, fun _ => ⟨rfl, rfl, rfl, rfl, rfl⟩⟩ <;> (intro h; cases h)
  · refine ⟨decH_ok1 (by omega) (by omega), (decH_sign _ _).1.2 (by omega), decH_ok1 (by omega) (by omega), decH_nonneg _ _ (by omega), fun _ => ⟨(handRadius_ok _).1, (handRadius_ok _).2 _ (by omega)⟩, fun _ => (handGlass_ok hG _).1, fun _ => ?_, fun _ => ?_, fun _ => ?_, ?_⟩
    · show OkDec (if _ then _ else _)
      split
      · exact decH_ok1 (by omega) (by omega)
      · exact ok_D0
    · show OkDec (if _ then _ else _)
      split
      · exact decH_ok1 (by omega) (by omega)
      · exact ok_D0
    · show OkDec (if _ then _ else _)
      split
      · exact decH_ok1 (by omega) (by omega)
      · exact ok_D0
    · intro h
      cases h
theorem plainFc_ok : OkFc plainFc := by
  refine ⟨⟨rfl, by decide⟩, by decide, ⟨rfl, by decide⟩, by decide, fun _ => ⟨⟨rfl, by decide⟩, .inr (by decide)⟩, fun _ => ⟨99, [114, 111, 119, 110], rfl, rfl, rfl, by decide⟩, fun _ => ok_D0, fun _ => ok_D0, fun _ => ok_D0, ?_⟩
  intro h
  cases h
theorem handFaces_mem {G : List Gl} {l : List RawF} {most : Nat} {f : Fc} (h : f ∈ handFaces G l most) : f = plainFc ∨ ∃ i r, f = handF G i r := by
  unfold handFaces at h
  split at h
  · exact .inl (by simpa using h)
  · unfold handFs at h
    obtain ⟨i, -, rfl⟩ := List.mem_map.1 h
    exact .inr ⟨i, _, rfl⟩
theorem handFaces_some (G : List Gl) (l : List RawF) (most : Nat) : (handFaces G l most).all Fc.stop = false := by
  unfold handFaces
  split
  · rfl
  · rename_i h
    obtain ⟨k, e⟩ : ∃ k, min l.length most = k + 1 := ⟨min l.length most - 1, by omega⟩
    rw [e]
    unfold handFs
    rw [List.range_succ_eq_map, List.map_cons, List.all_cons]
    have : (handF G 0 (l.getD 0 R0)).stop = false := by
      unfold handF
      rw [if_neg (by omega)]
    rw [this]
    rfl
theorem handFaces_len (G : List Gl) (l : List RawF) {most : Nat} (h : most ≤ 12) : (handFaces G l most).length ≤ 12 ∧ 1 ≤ (handFaces G l most).length := by
  unfold handFaces
  split
  · simp
  · rw [handFs_len]
    omega
theorem handLn_ok (back : Int) (l : List RawF) {G : List Gl} (hG : ∀ g ∈ G, OkGl g) {most : Nat} (hm : most ≤ 12) : OkLn (handLn back l G most) := by
  have hb := mod_bd back (show (0 : Int) < 100 by omega)
  have hc := mod_bd back (show (0 : Int) < 600 by omega)
  refine ⟨⟨120, Lib.decDigits (back % 100).toNat, rfl, rfl, ?_, ?_⟩, decH_ok1 (by omega) (by omega), (decH_sign _ _).1.2 (by omega), fun f hf => ?_, (handFaces_len G l hm).1, handFaces_some G l most⟩
  · have := dig_all (back % 100).toNat
    rw [List.all_eq_true] at this ⊢
    exact fun b hb => isD_W (this b hb)
  · have := dig_len 1 (back % 100).toNat (by omega)
    omega
  · rcases handFaces_mem hf with rfl | ⟨i, r, rfl⟩
    · exact plainFc_ok
    · exact handF_ok hG i r
/-- Each face's glass is one of these, or air. -/
theorem handLn_known (back : Int) (l : List RawF) {G : List Gl} (hG : ∀ g ∈ G, OkGl g) (hc : [99, 114, 111, 119, 110] ∈ G.map Gl.name) (most : Nat) : (handLn back l G most).faces.all (knownF (G.map Gl.name)) = true := by
  rw [List.all_eq_true]
  intro f hf
  rcases handFaces_mem hf with rfl | ⟨i, r, rfl⟩
  · show (false || (decide _ || _)) = true
    rw [Bool.false_or, Bool.or_eq_true]
    exact .inl (decide_eq_true hc)
  · unfold handF
    split
    · rfl
    · unfold knownF knownG
      rcases (handGlass_ok hG r.g).2 with h | h
      · simp only
        rw [decide_eq_true h]
        rfl
      · simp only [h, decide_true, Bool.or_true]
/-! ### How long a lens's text is -/
theorem rest_len : ∀ (r : List It) (M : Nat), (∀ y ∈ r, y.2.length ≤ M) → (restX [32] [10] r).length ≤ r.length * (M + 1) + 1
  | [], _, _ => by simp [restX]
  | y :: r, M, h => by
    have h1 := h y (by simp)
    have h2 := rest_len r M fun z hz => h z (by simp [hz])
    unfold restX
    simp only [List.length_append, List.length_cons, List.length_nil]
    rw [Nat.succ_mul]
    omega
theorem it_len {x : It} (hx : x.1 = 1 ∧ OkName x.2 ∨ ∃ d, x.2 = printP d) : x.2.length ≤ 20 := by
  rcases hx with ⟨-, c, w, e, -, -, h⟩ | ⟨d, e⟩
  · rw [e, List.length_cons]
    omega
  · rw [e]
    exact Nat.le_trans (printP_len14 d) (by omega)
theorem term_len (w : List UInt8) (d : Dec) : (termI w d).length ≤ 2 := by unfold termI; split <;> simp
theorem line_items {x : Ln} (hx : OkLn x) : ∀ l ∈ lensLines x, l.1.2.length ≤ 4 ∧ l.2.length ≤ 10 ∧ ∀ y ∈ l.2, y.2.length ≤ 20 := by
  intro l hl
  unfold lensLines at hl
  rcases List.mem_cons.1 hl with rfl | hl
  · refine ⟨by simp [lensT], by simp, fun y hy => ?_⟩
    simp only [List.mem_cons, List.not_mem_nil, or_false] at hy
    rcases hy with rfl | rfl
    · exact it_len (.inl ⟨rfl, hx.name⟩)
    · exact it_len (.inr ⟨_, rfl⟩)
  · obtain ⟨f, hf, rfl⟩ := List.mem_map.1 hl
    have hf := hx.faces f hf
    have t1 := term_len conicT f.conic
    have t2 := term_len a4T f.a4
    have t3 := term_len a6T f.a6
    have tm : ∀ (w : List UInt8) (d : Dec), w.length ≤ 20 → ∀ y ∈ termI w d, y.2.length ≤ 20 := by
      intro w d hw y hy
      unfold termI at hy
      split at hy
      · simp at hy
      · simp only [List.mem_cons, List.not_mem_nil, or_false] at hy
        rcases hy with rfl | rfl
        · exact hw
        · exact it_len (.inr ⟨_, rfl⟩)
    refine ⟨?_, ?_, ?_⟩
    · show (headI f).2.length ≤ 4
      unfold headI
      split <;> decide
    · show (faceI f).length ≤ 10
      unfold faceI
      split
      · simp
      · simp only [List.length_cons, List.length_append]
        omega
    · show ∀ y ∈ faceI f, y.2.length ≤ 20
      unfold faceI
      split
      · intro y hy
        simp only [List.mem_cons, List.not_mem_nil, or_false] at hy
        rcases hy with rfl | rfl <;> exact it_len (.inr ⟨_, rfl⟩)
      · rename_i hs
        have hs : f.stop = false := by simpa using hs
        intro y hy
        simp only [List.mem_cons, List.mem_append] at hy
        rcases hy with rfl | rfl | rfl | rfl | hy | hy | hy
        · exact it_len (.inr ⟨_, rfl⟩)
        · exact it_len (.inr ⟨_, rfl⟩)
        · exact it_len (.inr ⟨_, rfl⟩)
        · exact it_len (.inl ⟨rfl, hf.glass hs⟩)
        · exact tm _ _ (by decide) y hy
        · exact tm _ _ (by decide) y hy
        · exact tm _ _ (by decide) y hy
theorem lines_len : ∀ (ls : List (It × List It)), (∀ l ∈ ls, l.1.2.length ≤ 4 ∧ l.2.length ≤ 10 ∧ ∀ y ∈ l.2, y.2.length ≤ 20) → (textX [32] [10] ls).length ≤ ls.length * 215
  | [], _ => by simp [textX]
  | l :: r, h => by
    obtain ⟨h1, h2, h3⟩ := h l (by simp)
    have h4 := rest_len l.2 20 h3
    have h5 := lines_len r fun x hx => h x (by simp [hx])
    show (lineX [32] [10] l ++ textX [32] [10] r).length ≤ _
    unfold lineX
    simp only [List.length_append, List.length_cons]
    rw [Nat.succ_mul]
    omega
theorem textL_len {x : Ln} (hx : OkLn x) : (textL x).length ≤ 2795 := by
  have h1 := lines_len _ (line_items hx)
  have h2 : (lensLines x).length ≤ 13 := by
    unfold lensLines
    rw [List.length_cons, List.length_map]
    have := hx.most
    omega
  unfold textL
  omega

/-! ### W7: what is printed is read -/
theorem lens_back (G : List (List UInt8)) {x : Ln} (hx : OkLn x) (hk : x.faces.all (knownF G) = true) : readLn G (textL x) = .ok x := by
  have key := readLn_at G hx sep_one fin_line (by have := textL_len hx; unfold textL at this; omega)
  rw [if_pos hk] at key
  exact key
end Go.Proofs.YtekhhekkepijoaaGreatDoor

namespace Go.Proofs.YtekhhekkepijoaaGreatDoor
set_option linter.unusedVariables false
open Go.RowKit

theorem hand_known (back : Int) (l : List RawF) (raw : List Int) (most : Nat) : (handLn back l (glassesG raw) most).faces.all (knownF ((glassesG raw).map Gl.name)) = true := handLn_known back l (glassesG_ok raw) (by simp [glassesG, crownG]) most
end Go.Proofs.YtekhhekkepijoaaGreatDoor
