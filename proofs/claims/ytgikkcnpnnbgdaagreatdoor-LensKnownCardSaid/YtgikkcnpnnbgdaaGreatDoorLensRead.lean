/-
  Lenses, and what is read of a lens's tokens, one by one: plain lists.
-/
import Derived.Test.YtgikkcnpnnbgdaaGreatDoorLensMath
namespace Go.Proofs.YtgikkcnpnnbgdaaGreatDoor
set_option linter.unusedVariables false
open Go.RowKit

structure Fc where
  stop : Bool
  radius : Dec
  aperture : Dec
  thick : Dec
  conic : Dec
  a4 : Dec
  a6 : Dec
  glass : List UInt8
structure Ln where
  name : List UInt8
  back : Dec
  faces : List Fc
def lensT : List UInt8 := [108, 101, 110, 115]
def faceT : List UInt8 := [102, 97, 99, 101]
def stopT : List UInt8 := [115, 116, 111, 112]
def conicT : List UInt8 := [99, 111, 110, 105, 99]
def a4T : List UInt8 := [97, 52]
def a6T : List UInt8 := [97, 54]
def isZ (d : Dec) : Bool := decide (d.c = 0) && decide (d.s = 0)
/-- Is a number's size below another number? -/
def sizeLess (r a : Dec) : Bool := decide ((r.c.natAbs : Int) * 10 ^ a.s.toNat < a.c * 10 ^ r.s.toNat)

/-! ### A lens's lines -/
def termI (w : List UInt8) (d : Dec) : List It := if isZ d = true then [] else [(1, w), (2, printP d)]
def faceI (f : Fc) : List It :=
  if f.stop = true then [(2, printP f.aperture), (2, printP f.thick)]
  else (2, printP f.radius) :: (2, printP f.aperture) :: (2, printP f.thick) :: (1, f.glass) :: (termI conicT f.conic ++ (termI a4T f.a4 ++ termI a6T f.a6))
def headI (f : Fc) : It := if f.stop = true then (1, stopT) else (1, faceT)
def faceLine (f : Fc) : It × List It := (headI f, faceI f)
def lensLines (x : Ln) : List (It × List It) := ((1, lensT), [(1, x.name), (2, printP x.back)]) :: x.faces.map faceLine
def textL (x : Ln) : List UInt8 := textX [32] [10] (lensLines x)

/-! ### What is read -/
structure Flt where
  line : Nat
  col : Nat
  err : Nat
abbrev Ex (α : Type) := Except Flt α
def bnd {α β : Type} (x : Ex α) (f : α → Ex β) : Ex β := match x with | .error e => .error e | .ok a => f a
def failAt {α : Type} (t : Tk) (e : Nat) : Ex α := .error ⟨t.line, t.col, e⟩
def takeK (k : Nat) : List Tk → Ex (Tk × List Tk)
  | [] => .error ⟨0, 0, 2⟩
  | t :: r => if t.kind = k then .ok (t, r) else failAt t 2
def decK (ts : List Tk) : Ex (Dec × Tk × List Tk) := bnd (takeK 2 ts) fun p => .ok ((readP p.1.text).1, p.1, p.2)
def posK (ts : List Tk) : Ex (Dec × List Tk) := bnd (decK ts) fun p => if p.1.c ≤ 0 then failAt p.2.1 1 else .ok (p.1, p.2.2)
def thickK (ts : List Tk) : Ex (Dec × List Tk) := bnd (decK ts) fun p => if p.1.c < 0 then failAt p.2.1 1 else .ok (p.1, p.2.2)
def atWord (w : List UInt8) (ts : List Tk) : Bool := match ts with | [] => false | t :: _ => decide (t.kind = 1) && decide (t.text = w)
def termK (w : List UInt8) (ts : List Tk) : Ex (Dec × List Tk) :=
  if atWord w ts = true then bnd (decK ts.tail) fun p => if p.1.c = 0 then failAt p.2.1 1 else .ok (p.1, p.2.2)
  else .ok (⟨0, 0⟩, ts)
def knownG (G : List (List UInt8)) (t : List UInt8) : Bool := decide (t ∈ G) || decide (t = airT)
def faceK (G : List (List UInt8)) (ts : List Tk) : Ex (Fc × List Tk) :=
  bnd (decK ts) fun r => bnd (posK r.2.2) fun a =>
  if r.1.c ≠ 0 ∧ sizeLess r.1 a.1 = true then failAt r.2.1 1
  else bnd (thickK a.2) fun t => bnd (takeK 1 t.2) fun g =>
  if knownG G g.1.text = false then failAt g.1 4
  else bnd (termK conicT g.2) fun k => bnd (termK a4T k.2) fun p => bnd (termK a6T p.2) fun q => bnd (takeK 3 q.2) fun z =>
  .ok (⟨false, r.1, a.1, t.1, k.1, p.1, q.1, g.1.text⟩, z.2)
def stopK (ts : List Tk) : Ex (Fc × List Tk) :=
  bnd (posK ts) fun a => bnd (thickK a.2) fun t => bnd (takeK 3 t.2) fun z =>
  .ok (⟨true, ⟨0, 0⟩, a.1, t.1, ⟨0, 0⟩, ⟨0, 0⟩, ⟨0, 0⟩, []⟩, z.2)
def lineK1 (G : List (List UInt8)) (n : Nat) (ts : List Tk) : Ex (Fc × List Tk) :=
  bnd (takeK 1 ts) fun h =>
  if h.1.text ≠ faceT ∧ h.1.text ≠ stopT then failAt h.1 2
  else if 12 ≤ n then failAt h.1 3
  else if h.1.text = faceT then faceK G h.2 else stopK h.2
def facesK (G : List (List UInt8)) : Nat → List Tk → List Fc → Ex (List Fc)
  | 0, _, acc => .ok acc
  | n + 1, ts, acc => if ts.isEmpty = true then .ok acc else bnd (lineK1 G acc.length ts) fun p => facesK G n p.2 (acc ++ [p.1])
def readToks (G : List (List UInt8)) (ts : List Tk) : Ex Ln :=
  bnd (takeK 1 ts) fun h => if h.1.text ≠ lensT then failAt h.1 2
  else bnd (takeK 1 h.2) fun m => bnd (posK m.2) fun b => bnd (takeK 3 b.2) fun z => bnd (facesK G (z.2.length + 1) z.2 []) fun l =>
  if l.all Fc.stop = true then .error ⟨0, 0, 1⟩ else .ok ⟨m.1.text, b.1, l⟩
def readLn (G : List (List UInt8)) (s : List UInt8) : Ex Ln :=
  if (lexP s).err = 0 then readToks G (lexP s).toks else .error ⟨(lexP s).line, (lexP s).col, (lexP s).err⟩

/-! ### Lenses that may be -/
def OkTerm (d : Dec) : Prop := OkDec d
structure OkFc (f : Fc) : Prop where
  a : OkDec f.aperture
  apos : 0 < f.aperture.c
  t : OkDec f.thick
  tpos : 0 ≤ f.thick.c
  radius : f.stop = false → OkDec f.radius ∧ (f.radius.c = 0 ∨ sizeLess f.radius f.aperture = false)
  glass : f.stop = false → OkName f.glass
  conic : f.stop = false → OkDec f.conic
  a4 : f.stop = false → OkDec f.a4
  a6 : f.stop = false → OkDec f.a6
  bare : f.stop = true → f.radius = ⟨0, 0⟩ ∧ f.conic = ⟨0, 0⟩ ∧ f.a4 = ⟨0, 0⟩ ∧ f.a6 = ⟨0, 0⟩ ∧ f.glass = []
structure OkLn (x : Ln) : Prop where
  name : OkName x.name
  back : OkDec x.back
  bpos : 0 < x.back.c
  faces : ∀ f ∈ x.faces, OkFc f
  most : x.faces.length ≤ 12
  some : x.faces.all Fc.stop = false
/-- Are a face's glasses known? -/
def knownF (G : List (List UInt8)) (f : Fc) : Bool := f.stop || knownG G f.glass

theorem ok_zero {d : Dec} (h : OkDec d) : isZ d = decide (d.c = 0) := by
  obtain ⟨c, s⟩ := d
  obtain ⟨-, h0, -, h1⟩ := decRight_bd h.1
  unfold isZ
  by_cases hc : c = 0
  · subst hc
    rcases h1 with rfl | h1
    · rfl
    · exact absurd rfl h1
  · simp [hc]
theorem name_it {t : List UInt8} (h : OkName t) : OkIt (1, t) := .inl ⟨rfl, h⟩
theorem ok_it {d : Dec} (h : OkDec d) : OkIt (2, printP d) := dec_it h.1 h.2
theorem term_ok {w : List UInt8} (hw : OkName w) {d : Dec} (h : OkDec d) : ∀ y ∈ termI w d, OkIt y := by
  unfold termI
  split
  · simp
  · intro y hy
    simp only [List.mem_cons, List.not_mem_nil, or_false] at hy
    rcases hy with rfl | rfl
    · exact name_it hw
    · exact ok_it h
theorem conic_name : OkName conicT := ⟨99, [111, 110, 105, 99], rfl, rfl, rfl, by decide⟩
theorem a4_name : OkName a4T := ⟨97, [52], rfl, rfl, rfl, by decide⟩
theorem a6_name : OkName a6T := ⟨97, [54], rfl, rfl, rfl, by decide⟩
theorem lens_name : OkName lensT := ⟨108, [101, 110, 115], rfl, rfl, rfl, by decide⟩
theorem face_name : OkName faceT := ⟨102, [97, 99, 101], rfl, rfl, rfl, by decide⟩
theorem stop_name : OkName stopT := ⟨115, [116, 111, 112], rfl, rfl, rfl, by decide⟩
theorem lensLines_ok {x : Ln} (h : OkLn x) : OkLines (lensLines x) := by
  intro l hl
  unfold lensLines at hl
  rcases List.mem_cons.1 hl with rfl | hl
  · refine ⟨name_it lens_name, fun y hy => ?_⟩
    simp only [List.mem_cons, List.not_mem_nil, or_false] at hy
    rcases hy with rfl | rfl
    · exact name_it h.name
    · exact ok_it h.back
  · obtain ⟨f, hf, rfl⟩ := List.mem_map.1 hl
    have hf := h.faces f hf
    refine ⟨?_, ?_⟩
    · show OkIt (headI f)
      unfold headI
      split
      · exact name_it stop_name
      · exact name_it face_name
    · show ∀ y ∈ faceI f, OkIt y
      unfold faceI
      split
      · intro y hy
        simp only [List.mem_cons, List.not_mem_nil, or_false] at hy
        rcases hy with rfl | rfl
        · exact ok_it hf.a
        · exact ok_it hf.t
      · rename_i hs
        have hs : f.stop = false := by simpa using hs
        intro y hy
        simp only [List.mem_cons, List.mem_append] at hy
        rcases hy with rfl | rfl | rfl | rfl | hy | hy | hy
        · exact ok_it (hf.radius hs).1
        · exact ok_it hf.a
        · exact ok_it hf.t
        · exact name_it (hf.glass hs)
        · exact term_ok conic_name (hf.conic hs) y hy
        · exact term_ok a4_name (hf.a4 hs) y hy
        · exact term_ok a6_name (hf.a6 hs) y hy

/-! ### Token by token, of a lens's own lines -/
theorem take_it {ts : List Tk} {x : It} {q : List It} (h : ts.map ktk = x :: q) : ∃ t r, ts = t :: r ∧ t.text = x.2 ∧ r.map ktk = q ∧ takeK x.1 ts = .ok (t, r) := by
  obtain ⟨t, r, rfl, h1, h2⟩ := List.map_eq_cons_iff.1 h
  exact ⟨t, r, rfl, congrArg Prod.snd h1, h2, by
    have hk : t.kind = x.1 := congrArg Prod.fst h1
    unfold takeK
    show (if t.kind = x.1 then _ else _) = _
    rw [if_pos hk]⟩
theorem dec_at {ts : List Tk} {d : Dec} {q : List It} (hd : OkDec d) (h : ts.map ktk = (2, printP d) :: q) : ∃ t r, decK ts = .ok (d, t, r) ∧ r.map ktk = q := by
  obtain ⟨t, r, -, h1, h2, h3⟩ := take_it h
  refine ⟨t, r, ?_, h2⟩
  unfold decK
  rw [h3]
  show Except.ok ((readP t.text).1, t, r) = _
  rw [h1, read_dec1 hd]
theorem pos_at {ts : List Tk} {d : Dec} {q : List It} (hd : OkDec d) (h0 : 0 < d.c) (h : ts.map ktk = (2, printP d) :: q) : ∃ r, posK ts = .ok (d, r) ∧ r.map ktk = q := by
  obtain ⟨t, r, h1, h2⟩ := dec_at hd h
  refine ⟨r, ?_, h2⟩
  unfold posK
  rw [h1]
  show (if d.c ≤ 0 then _ else _) = _
  rw [if_neg (by omega)]
theorem thick_at {ts : List Tk} {d : Dec} {q : List It} (hd : OkDec d) (h0 : 0 ≤ d.c) (h : ts.map ktk = (2, printP d) :: q) : ∃ r, thickK ts = .ok (d, r) ∧ r.map ktk = q := by
  obtain ⟨t, r, h1, h2⟩ := dec_at hd h
  refine ⟨r, ?_, h2⟩
  unfold thickK
  rw [h1]
  show (if d.c < 0 then _ else _) = _
  rw [if_neg (by omega)]
theorem atWord_at {ts : List Tk} {x : It} {q : List It} (w : List UInt8) (h : ts.map ktk = x :: q) : atWord w ts = (decide (x.1 = 1) && decide (x.2 = w)) := by
  obtain ⟨t, r, rfl, h1, -⟩ := List.map_eq_cons_iff.1 h
  subst h1
  rfl
/-- A term that is there, or not there: what stands behind begins with another word. -/
theorem term_at {ts : List Tk} {w : List UInt8} {d : Dec} {q : List It} (hd : OkDec d) (hq : ∃ x r, q = x :: r ∧ (decide (x.1 = 1) && decide (x.2 = w)) = false) (h : ts.map ktk = termI w d ++ q) : ∃ r, termK w ts = .ok (d, r) ∧ r.map ktk = q := by
  by_cases hz : isZ d = true
  · unfold termI at h
    rw [if_pos hz, List.nil_append] at h
    obtain ⟨x, r, rfl, hx⟩ := hq
    refine ⟨ts, ?_, h⟩
    unfold termK
    rw [atWord_at w h, hx, if_neg (by simp)]
    obtain ⟨c, s⟩ := d
    simp only [isZ, Bool.and_eq_true, decide_eq_true_eq] at hz
    rw [hz.1, hz.2]
  · unfold termI at h
    rw [if_neg hz] at h
    obtain ⟨t, r, rfl, -, h2⟩ := List.map_eq_cons_iff.1 h
    obtain ⟨u, v, h3, h4⟩ := dec_at hd h2
    refine ⟨v, ?_, h4⟩
    unfold termK
    rw [atWord_at w h, if_pos (by simp)]
    show bnd (decK r) _ = _
    rw [h3]
    show (if d.c = 0 then _ else _) = _
    rw [ok_zero hd] at hz
    rw [if_neg (by simpa using hz)]
theorem term_first {w v : List UInt8} (hv : v ≠ w) (d : Dec) {q : List It} (hq : ∃ x r, q = x :: r ∧ (decide (x.1 = 1) && decide (x.2 = w)) = false) : ∃ x r, termI v d ++ q = x :: r ∧ (decide (x.1 = 1) && decide (x.2 = w)) = false := by
  unfold termI
  split
  · exact hq
  · exact ⟨_, _, rfl, by simp [hv]⟩
theorem end_first (w : List UInt8) (q : List It) : ∃ x r, (3, ([] : List UInt8)) :: q = x :: r ∧ (decide (x.1 = 1) && decide (x.2 = w)) = false := ⟨_, _, rfl, rfl⟩
theorem face_at (G : List (List UInt8)) {f : Fc} (hf : OkFc f) (hs : f.stop = false) {ts : List Tk} {q : List It} (h : ts.map ktk = faceI f ++ ((3, []) :: q)) :
    if knownG G f.glass = true then ∃ r, faceK G ts = .ok (f, r) ∧ r.map ktk = q else ∃ t, faceK G ts = failAt t 4 := by
  unfold faceI at h
  rw [if_neg (by rw [hs]; simp)] at h
  simp only [List.cons_append, List.append_assoc] at h
  obtain ⟨t1, r1, e1, h⟩ := dec_at (hf.radius hs).1 h
  obtain ⟨r2, e2, h⟩ := pos_at hf.a hf.apos h
  obtain ⟨r3, e3, h⟩ := thick_at hf.t hf.tpos h
  obtain ⟨t4, r4, -, h4, h, e4⟩ := take_it h
  have hr : ¬ (f.radius.c ≠ 0 ∧ sizeLess f.radius f.aperture = true) := by
    rintro ⟨h1, h2⟩
    rcases (hf.radius hs).2 with h3 | h3
    · exact h1 h3
    · rw [h3] at h2; cases h2
  obtain ⟨r5, e5, h5⟩ := term_at (hf.conic hs) (term_first (by decide) _ (term_first (by decide) _ (end_first _ q))) h
  obtain ⟨r6, e6, h6⟩ := term_at (hf.a4 hs) (term_first (by decide) _ (end_first _ q)) h5
  obtain ⟨r7, e7, h7⟩ := term_at (hf.a6 hs) (end_first _ q) h6
  obtain ⟨t8, r8, -, -, h8, e8⟩ := take_it h7
  unfold faceK
  simp only [bnd, e1, e2, e3, e4, e5, e6, e7, e8, hr, if_false, h4]
  cases hk : knownG G f.glass with
  | true =>
    refine ⟨r8, ?_, h8⟩
    simp only [Bool.true_eq_false, if_false]
    rw [← hs]
  | false => exact ⟨t4, rfl⟩
theorem stop_at {f : Fc} (hf : OkFc f) (hs : f.stop = true) {ts : List Tk} {q : List It} (h : ts.map ktk = faceI f ++ ((3, []) :: q)) : ∃ r, stopK ts = .ok (f, r) ∧ r.map ktk = q := by
  unfold faceI at h
  rw [if_pos hs] at h
  simp only [List.cons_append, List.nil_append] at h
  obtain ⟨r2, e2, h⟩ := pos_at hf.a hf.apos h
  obtain ⟨r3, e3, h⟩ := thick_at hf.t hf.tpos h
  obtain ⟨t8, r8, -, -, h8, e8⟩ := take_it h
  refine ⟨r8, ?_, h8⟩
  unfold stopK
  simp only [bnd, e2, e3, e8]
  obtain ⟨h1, h2, h3, h4, h5⟩ := hf.bare hs
  rw [← h1, ← hs]
  congr 2
  cases f
  simp only [Fc.mk.injEq] at *
  simp [h1, h2, h3, h4, h5]
theorem line_at (G : List (List UInt8)) {f : Fc} (hf : OkFc f) {n : Nat} (hn : n < 12) {ts : List Tk} {q : List It} (h : ts.map ktk = itsX (faceLine f) ++ q) :
    if knownF G f = true then ∃ r, lineK1 G n ts = .ok (f, r) ∧ r.map ktk = q else ∃ t, lineK1 G n ts = failAt t 4 := by
  have h : ts.map ktk = headI f :: (faceI f ++ ((3, []) :: q)) := by
    rw [h]
    show headI f :: ((faceI f ++ [(3, [])]) ++ q) = _
    rw [List.append_assoc]
    rfl
  obtain ⟨t, r, -, h1, h2, h3⟩ := take_it h
  have hk : (headI f).1 = 1 := by unfold headI; split <;> rfl
  rw [hk] at h3
  unfold lineK1 knownF
  rw [h3]
  cases hs : f.stop with
  | true =>
    have ht : t.text = stopT := by rw [h1]; unfold headI; rw [if_pos hs]
    obtain ⟨r8, e8, h8⟩ := stop_at hf hs h2
    refine ⟨r8, ?_, h8⟩
    simp only [bnd, ht]
    rw [if_neg (by decide), if_neg (by omega), if_neg (by decide), e8]
  | false =>
    have ht : t.text = faceT := by rw [h1]; unfold headI; rw [if_neg (by rw [hs]; simp)]
    have key := face_at G hf hs h2
    simp only [bnd, ht, Bool.false_or]
    rw [if_neg (show ¬ (faceT ≠ faceT ∧ faceT ≠ stopT) from fun h => h.1 rfl), if_neg (show ¬ 12 ≤ n by omega)]
    exact key
theorem facesK_at (G : List (List UInt8)) : ∀ (l : List Fc) (n : Nat) (acc : List Fc) (ts : List Tk), (∀ f ∈ l, OkFc f) → l.length < n → acc.length + l.length ≤ 12 → ts.map ktk = (l.map faceLine).flatMap itsX →
    if l.all (knownF G) = true then facesK G n ts acc = .ok (acc ++ l) else ∃ t, facesK G n ts acc = failAt t 4
  | [], n, acc, ts, _, hn, _, h => by
    obtain ⟨m, rfl⟩ : ∃ m, n = m + 1 := ⟨n - 1, by simp only [List.length_nil] at hn; omega⟩
    obtain rfl := List.map_eq_nil_iff.1 h
    rw [if_pos (show ([] : List Fc).all (knownF G) = true from rfl), List.append_nil]
    rfl
  | f :: r, n, acc, ts, hf, hn, hl, h => by
    simp only [List.length_cons] at hn hl
    obtain ⟨m, rfl⟩ : ∃ m, n = m + 1 := ⟨n - 1, by omega⟩
    rw [List.map_cons, List.flatMap_cons] at h
    have hne : ts.isEmpty = false := by
      cases ts with
      | nil => simp [itsX] at h
      | cons => rfl
    have key := line_at G (hf f (by simp)) (show acc.length < 12 by omega) h
    have e : facesK G (m + 1) ts acc = bnd (lineK1 G acc.length ts) fun p => facesK G m p.2 (acc ++ [p.1]) := by
      conv => lhs; unfold facesK
      rw [if_neg (show ¬ ts.isEmpty = true by rw [hne]; simp)]
    rw [e, List.all_cons]
    cases hk : knownF G f with
    | false =>
      rw [hk] at key
      obtain ⟨t, ht⟩ : ∃ t, lineK1 G acc.length ts = failAt t 4 := key
      rw [ht]
      exact ⟨t, rfl⟩
    | true =>
      rw [hk] at key
      obtain ⟨q, hq, h2⟩ : ∃ q, lineK1 G acc.length ts = .ok (f, q) ∧ q.map ktk = (r.map faceLine).flatMap itsX := key
      rw [hq, Bool.true_and]
      have ih := facesK_at G r m (acc ++ [f]) q (fun x hx => hf x (by simp [hx])) (by omega) (by rw [List.length_append]; simp only [List.length_singleton]; omega) h2
      rw [List.append_assoc, List.singleton_append] at ih
      exact ih
/-- THE TOKENS OF A LENS'S TEXT: they are the lens, or a glass is not known. -/
theorem readToks_at (G : List (List UInt8)) {x : Ln} (hx : OkLn x) {ts : List Tk} (h : ts.map ktk = (lensLines x).flatMap itsX) :
    if x.faces.all (knownF G) = true then readToks G ts = .ok x else ∃ t, readToks G ts = failAt t 4 := by
  have h : ts.map ktk = (1, lensT) :: (1, x.name) :: (2, printP x.back) :: (3, []) :: (x.faces.map faceLine).flatMap itsX := by
    rw [h]
    rfl
  obtain ⟨t1, r1, -, w1, h, e1⟩ := take_it h
  obtain ⟨t2, r2, -, w2, h, e2⟩ := take_it h
  obtain ⟨r3, e3, h⟩ := pos_at hx.back hx.bpos h
  obtain ⟨t4, r4, -, -, h, e4⟩ := take_it h
  have hlen : x.faces.length < r4.length + 1 := by
    have : r4.length = ((x.faces.map faceLine).flatMap itsX).length := by rw [← h, List.length_map]
    rw [this]
    have key : ∀ l : List Fc, l.length ≤ ((l.map faceLine).flatMap itsX).length := by
      intro l
      induction l with
      | nil => simp
      | cons f r ih =>
        rw [List.map_cons, List.flatMap_cons, List.length_append, List.length_cons]
        have : 1 ≤ (itsX (faceLine f)).length := by simp [itsX]
        omega
    have := key x.faces
    omega
  have ih := facesK_at G x.faces (r4.length + 1) [] r4 hx.faces hlen (by have := hx.most; simpa using this) h
  unfold readToks
  simp only [bnd, e1, e2, e3, e4, w1, w2, List.nil_append] at ih ⊢
  rw [if_neg (show ¬ lensT ≠ lensT from fun h => h rfl)]
  split
  · rename_i hk
    rw [if_pos hk] at ih
    rw [ih]
    show (if x.faces.all Fc.stop = true then _ else _) = _
    rw [if_neg (by rw [hx.some]; simp)]
  · rename_i hk
    rw [if_neg hk] at ih
    obtain ⟨t, ht⟩ := ih
    rw [ht]
    exact ⟨t, rfl⟩
/-- A lens's text, with blanks and remarks of any kind, is read to the lens. -/
theorem readLn_at (G : List (List UInt8)) {x : Ln} (hx : OkLn x) {sep fin : List UInt8} (hs : OkSep sep) (hf : OkFin fin) (hn : (textX sep fin (lensLines x)).length ≤ 4000) :
    if x.faces.all (knownF G) = true then readLn G (textX sep fin (lensLines x)) = .ok x else ∃ t, readLn G (textX sep fin (lensLines x)) = failAt t 4 := by
  obtain ⟨ts, h1, h2⟩ := textX_read hs hf (lensLines_ok hx) hn
  have key := readToks_at G hx h1
  unfold readLn
  rw [h2]
  exact key
end Go.Proofs.YtgikkcnpnnbgdaaGreatDoor

