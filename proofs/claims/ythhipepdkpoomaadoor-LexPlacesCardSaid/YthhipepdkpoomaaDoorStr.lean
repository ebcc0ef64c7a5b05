/-
  Texts as lists of bytes, as the walk meets them; the library's table of powers of ten, as the contracts ask for it.
-/
import Derived.Test.YthhipepdkpoomaaDoorRows
import Derived.Test.YthhipepdkpoomaaDoorMore
import Derived.Lib.LaidTab
import Derived.Lib.ItoaNum
import Derived.WalkLawsBesides
namespace Go.Proofs.YthhipepdkpoomaaDoor
set_option linter.unusedVariables false
open Go.RowKit

/-- The text of these bytes; a text's bytes. -/
def bsOf (l : List UInt8) : ByteArray := ⟨l.toArray⟩
def lsOf (s : ByteArray) : List UInt8 := s.data.toList

theorem bs_ls (s : ByteArray) : bsOf (lsOf s) = s := rfl
@[go_sem, simp] theorem ls_bs (l : List UInt8) : lsOf (bsOf l) = l := by simp [lsOf, bsOf]
@[go_sem, simp] theorem ls_mk (a : Array UInt8) : lsOf ⟨a⟩ = a.toList := rfl
theorem mk_bs (l : List UInt8) : (⟨l.toArray⟩ : ByteArray) = bsOf l := rfl
@[go_sem, simp] theorem size_bs (l : List UInt8) : (bsOf l).size = l.length := by simp [bsOf, ByteArray.size]
theorem size_ls (s : ByteArray) : s.size = (lsOf s).length := (Array.length_toList (xs := s.data)).symm
@[go_sem, simp] theorem list_bs (l : List UInt8) : (bsOf l).toList = l := by simp [bsOf]
@[go_sem, simp] theorem data_bs (l : List UInt8) : (bsOf l).data.toList = l := by simp [bsOf]
@[go_sem, simp] theorem append_bs (l m : List UInt8) : bsOf l ++ bsOf m = bsOf (l ++ m) := ByteArray.mk_append_mk l m
@[go_sem, simp] theorem mk_append_bs (a : Array UInt8) (l : List UInt8) : (⟨a⟩ : ByteArray) ++ bsOf l = bsOf (a.toList ++ l) := append_bs a.toList l
@[go_sem, simp] theorem bs_append_mk (a : Array UInt8) (l : List UInt8) : bsOf l ++ (⟨a⟩ : ByteArray) = bsOf (l ++ a.toList) := append_bs l a.toList
@[go_sem, simp] theorem ls_append (s t : ByteArray) : lsOf (s ++ t) = lsOf s ++ lsOf t := by simp [lsOf]
@[go_sem, simp] theorem extract_bs (l : List UInt8) (i j : Nat) : (bsOf l).extract i j = bsOf ((l.drop i).take (j - i)) := ByteArray.extract_mk l i j
theorem str_bs (s : ByteArray) : ∃ l, s = bsOf l := ⟨lsOf s, rfl⟩
/-- The byte at a place, as a number. -/
def byteAt (l : List UInt8) (k : Nat) : Int := ((l.getD k 0).toNat : Int)
theorem byteAt_bd (l : List UInt8) (k : Nat) : 0 ≤ byteAt l k ∧ byteAt l k ≤ 255 := by
  unfold byteAt
  have := (l.getD k 0).toNat_lt
  omega
@[go_sem, simp] theorem get_bs (l : List UInt8) (k : Nat) (h : k < (bsOf l).size) : (((bsOf l)[k]'h).toNat : Int) = byteAt l k := by
  have h1 : k < l.length := by simpa using h
  unfold byteAt
  rw [List.getD_eq_getElem?_getD, List.getElem?_eq_getElem h1]
  simp [bsOf, ByteArray.getElem_eq_getElem_data]

end Go.Proofs.YthhipepdkpoomaaDoor

