/-
  Lenses, and what is read of a lens's tokens, one by one: plain lists.
  The lenses that are handed in: of raw faces, right; their texts' length; which glasses they ask for.
-/
import Derived.Test.YtekhhekkepijoaaGreatDoorGg

namespace Go.Proofs.YtekhhekkepijoaaGreatDoor
set_option linter.unusedVariables false
open Go.RowKit

structure Fc where
  stop : Bool
  radius : Dec
  aperture : Dec
  thick : Dec
  conic : Dec
  a4 : Dec
  a6 : Dec
  glass : List UInt8
structure Ln where
  name : List UInt8
  back : Dec
  faces : List Fc
def lensT : List UInt8 := [108, 101, 110, 115]
def faceT : List UInt8 := [102, 97, 99, 101]
def stopT : List UInt8 := [115, 116, 111, 112]
def conicT : List UInt8 := [99, 111, 110, 105, 99]
def a4T : List UInt8 := [97, 52]
def a6T : List UInt8 := [97, 54]
def isZ (d : Dec) : Bool := decide (d.c = 0) && decide (d.s = 0)
/-- Is a number's size below another number? -/
def sizeLess (r a : Dec) : Bool := decide ((r.c.natAbs : Int) * 10 ^ a.s.toNat < a.c * 10 ^ r.s.toNat)

/-! ### A lens's lines -/
/-! ### What is read -/
structure Flt where
  line : Nat
  col : Nat
  err : Nat
abbrev Ex (α : Type) := Except Flt α
def bnd {α β : Type} (x : Ex α) (f : α → Ex β) : Ex β := match x with | .error e => .error e | .ok a => f a
def failAt {α : Type} (t : Tk) (e : Nat) : Ex α := .error ⟨t.line, t.col, e⟩
def takeK (k : Nat) : List Tk → Ex (Tk × List Tk)
  | [] => .error ⟨0, 0, 2⟩
  | t :: r => if t.kind = k then .ok (t, r) else failAt t 2
def decK (ts : List Tk) : Ex (Dec × Tk × List Tk) := bnd (takeK 2 ts) fun p => .ok ((readP p.1.text).1, p.1, p.2)
def posK (ts : List Tk) : Ex (Dec × List Tk) := bnd (decK ts) fun p => if p.1.c ≤ 0 then failAt p.2.1 1 else .ok (p.1, p.2.2)
def thickK (ts : List Tk) : Ex (Dec × List Tk) := bnd (decK ts) fun p => if p.1.c < 0 then failAt p.2.1 1 else .ok (p.1, p.2.2)
def atWord (w : List UInt8) (ts : List Tk) : Bool := match ts with | [] => false | t :: _ => decide (t.kind = 1) && decide (t.text = w)
def termK (w : List UInt8) (ts : List Tk) : Ex (Dec × List Tk) :=
  if atWord w ts = true then bnd (decK ts.tail) fun p => if p.1.c = 0 then failAt p.2.1 1 else .ok (p.1, p.2.2)
  else .ok (⟨0, 0⟩, ts)
def knownG (G : List (List UInt8)) (t : List UInt8) : Bool := decide (t ∈ G) || decide (t = airT)
def faceK (G : List (List UInt8)) (ts : List Tk) : Ex (Fc × List Tk) :=
  bnd (decK ts) fun r => bnd (posK r.2.2) fun a =>
  if r.1.c ≠ 0 ∧ sizeLess r.1 a.1 = true then failAt r.2.1 1
  else bnd (thickK a.2) fun t => bnd (takeK 1 t.2) fun g =>
  if knownG G g.1.text = false then failAt g.1 4
  else bnd (termK conicT g.2) fun k => bnd (termK a4T k.2) fun p => bnd (termK a6T p.2) fun q => bnd (takeK 3 q.2) fun z =>
  .ok (⟨false, r.1, a.1, t.1, k.1, p.1, q.1, g.1.text⟩, z.2)
def stopK (ts : List Tk) : Ex (Fc × List Tk) :=
  bnd (posK ts) fun a => bnd (thickK a.2) fun t => bnd (takeK 3 t.2) fun z =>
  .ok (⟨true, ⟨0, 0⟩, a.1, t.1, ⟨0, 0⟩, ⟨0, 0⟩, ⟨0, 0⟩, []⟩, z.2)
def lineK1 (G : List (List UInt8)) (n : Nat) (ts : List Tk) : Ex (Fc × List Tk) :=
  bnd (takeK 1 ts) fun h =>
  if h.1.text ≠ faceT ∧ h.1.text ≠ stopT then failAt h.1 2
  else if 12 ≤ n then failAt h.1 3
  else if h.1.text = faceT then faceK G h.2 else stopK h.2
def facesK (G : List (List UInt8)) : Nat → List Tk → List Fc → Ex (List Fc)
  | 0, _, acc => .ok acc
  | n + 1, ts, acc => if ts.isEmpty = true then .ok acc else bnd (lineK1 G acc.length ts) fun p => facesK G n p.2 (acc ++ [p.1])
def readToks (G : List (List UInt8)) (ts : List Tk) : Ex Ln :=
  bnd (takeK 1 ts) fun h => if h.1.text ≠ lensT then failAt h.1 2
  else bnd (takeK 1 h.2) fun m => bnd (posK m.2) fun b => bnd (takeK 3 b.2) fun z => bnd (facesK G (z.2.length + 1) z.2 []) fun l =>
  if l.all Fc.stop = true then .error ⟨0, 0, 1⟩ else .ok ⟨m.1.text, b.1, l⟩
def readLn (G : List (List UInt8)) (s : List UInt8) : Ex Ln :=
  if (lexP s).err = 0 then readToks G (lexP s).toks else .error ⟨(lexP s).line, (lexP s).col, (lexP s).err⟩

/-! ### Lenses that may be -/
theorem conic_name : OkName conicT := ⟨99, [111, 110, 105, 99], rfl, rfl, rfl, by decide⟩
theorem a4_name : OkName a4T := ⟨97, [52], rfl, rfl, rfl, by decide⟩
theorem a6_name : OkName a6T := ⟨97, [54], rfl, rfl, rfl, by decide⟩
/-! ### Token by token, of a lens's own lines -/
end Go.Proofs.YtekhhekkepijoaaGreatDoor

namespace Go.Proofs.YtekhhekkepijoaaGreatDoor
set_option linter.unusedVariables false
open Go.RowKit

/-! ### Decimals of one scale -/
/-! ### The lens of raw faces -/
structure RawF where
  kind : Int
  r : Int
  a : Int
  t : Int
  g : Int
  k : Int
def D0 : Dec := ⟨0, 0⟩
/-! ### How long a lens's text is -/
/-! ### W7: what is printed is read -/
end Go.Proofs.YtekhhekkepijoaaGreatDoor
