/-
  Texts as lists of bytes, as the walk meets them; the library's table of powers of ten, as the contracts ask for it.
  Decimals in plain words: their texts as lists of bytes, read and printed.
-/
import Derived.Test.YtekhhekkepijoaaRows
import Derived.Test.YtekhhekkepijoaaGa
import Derived.Lib.LaidTab
import Derived.Lib.ItoaNum
import Derived.WalkLawsBesides
import Derived.Lib.Bytealg
import Derived.Lib.TrimByte
import Derived.Lib.Repeat

namespace Go.Proofs.Ytekhhekkepijoaa
set_option linter.unusedVariables false
open Go.RowKit

/-- The text of these bytes; a text's bytes. -/
def bsOf (l : List UInt8) : ByteArray := ⟨l.toArray⟩
def lsOf (s : ByteArray) : List UInt8 := s.data.toList

@[go_sem, simp] theorem ls_bs (l : List UInt8) : lsOf (bsOf l) = l := by simp [lsOf, bsOf]
@[go_sem, simp] theorem ls_mk (a : Array UInt8) : lsOf ⟨a⟩ = a.toList := rfl
@[go_sem, simp] theorem size_bs (l : List UInt8) : (bsOf l).size = l.length := by simp [bsOf, ByteArray.size]
@[go_sem, simp] theorem list_bs (l : List UInt8) : (bsOf l).toList = l := by simp [bsOf]
@[go_sem, simp] theorem data_bs (l : List UInt8) : (bsOf l).data.toList = l := by simp [bsOf]
@[go_sem, simp] theorem append_bs (l m : List UInt8) : bsOf l ++ bsOf m = bsOf (l ++ m) := ByteArray.mk_append_mk l m
@[go_sem, simp] theorem mk_append_bs (a : Array UInt8) (l : List UInt8) : (⟨a⟩ : ByteArray) ++ bsOf l = bsOf (a.toList ++ l) := append_bs a.toList l
@[go_sem, simp] theorem bs_append_mk (a : Array UInt8) (l : List UInt8) : bsOf l ++ (⟨a⟩ : ByteArray) = bsOf (l ++ a.toList) := append_bs l a.toList
@[go_sem, simp] theorem ls_append (s t : ByteArray) : lsOf (s ++ t) = lsOf s ++ lsOf t := by simp [lsOf]
@[go_sem, simp] theorem extract_bs (l : List UInt8) (i j : Nat) : (bsOf l).extract i j = bsOf ((l.drop i).take (j - i)) := ByteArray.extract_mk l i j
/-- The byte at a place, as a number. -/
def byteAt (l : List UInt8) (k : Nat) : Int := ((l.getD k 0).toNat : Int)
@[go_sem, simp] theorem get_bs (l : List UInt8) (k : Nat) (h : k < (bsOf l).size) : (((bsOf l)[k]'h).toNat : Int) = byteAt l k := by
  have h1 : k < l.length := by simpa using h
  unfold byteAt
  rw [List.getD_eq_getElem?_getD, List.getElem?_eq_getElem h1]
  simp [bsOf, ByteArray.getElem_eq_getElem_data]

end Go.Proofs.Ytekhhekkepijoaa

namespace Go.Proofs.Ytekhhekkepijoaa
set_option linter.unusedVariables false
open Go.RowKit

/-! ### Digits -/
def dv (b : UInt8) : Nat := b.toNat - 48
/-! ### What the library's calls do -/
/-! ### Zeros at the end -/
/-! ### Read -/
end Go.Proofs.Ytekhhekkepijoaa
