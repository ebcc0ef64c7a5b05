/-
  Faces in memory: a struct of fourteen cells; a slice of them.
  A slice of raw faces (structs of six numbers) among the arguments.
  Is a face of the slice no stop?
-/
import Derived.Test.YtekhhekkepijoaaGreatDoorGj
import Derived.Test.YtekhhekkepijoaaGreatDoorGe
import Derived.Test.YtekhhekkepijoaaGreatDoorGa
import Derived.Test.YtekhhekkepijoaaGreatDoorGc
import Derived.Deep.Slices
import Derived.Test.YtekhhekkepijoaaGreatDoorGf

namespace Go.Proofs.YtekhhekkepijoaaGreatDoor
set_option linter.unusedVariables false
open Go.ChangeShapes Go.WideShapes Go.ChangeAt Go.RowKit

def cellsF (f : Fc) : List Value := [.bool f.stop, .int .i64 f.radius.c, .int .i64 f.radius.s, .int .i64 f.aperture.c, .int .i64 f.aperture.s, .int .i64 f.thick.c, .int .i64 f.thick.s, .int .i64 f.conic.c, .int .i64 f.conic.s, .int .i64 f.a4.c, .int .i64 f.a4.s, .int .i64 f.a6.c, .int .i64 f.a6.s, .string (bsOf f.glass)]
@[reducible] def fcV (f : Fc) : Value := .agg #[.bool f.stop, .int .i64 f.radius.c, .int .i64 f.radius.s, .int .i64 f.aperture.c, .int .i64 f.aperture.s, .int .i64 f.thick.c, .int .i64 f.thick.s, .int .i64 f.conic.c, .int .i64 f.conic.s, .int .i64 f.a4.c, .int .i64 f.a4.s, .int .i64 f.a6.c, .int .i64 f.a6.s, .string (bsOf f.glass)]
theorem cellsF_len (f : Fc) : (cellsF f).length = 14 := rfl
theorem cellsF_one (f : Fc) : ∀ u ∈ cellsF f, u.oneCell' = true := by
  intro u hu
  simp only [cellsF, List.mem_cons, List.not_mem_nil, or_false] at hu
  rcases hu with rfl | rfl | rfl | rfl | rfl | rfl | rfl | rfl | rfl | rfl | rfl | rfl | rfl | rfl <;> rfl
abbrev Fcs (w : World) (v : Value) (l : List Fc) : Prop := GRow cellsF 14 w v l
theorem fcs_pos (f : Fc) : 0 < (cellsF f).length := by rw [cellsF_len]; decide
theorem und_fs : Tryz.prog.underlying 26 = some (.slice 56) := by kernel_rfl
theorem info_fs : (Tryz.prog.info? 56).map (fun i => (i.zero, i.size, i.bytes)) = some (some (.agg #[.bool false, .int .i64 0, .int .i64 0, .int .i64 0, .int .i64 0, .int .i64 0, .int .i64 0, .int .i64 0, .int .i64 0, .int .i64 0, .int .i64 0, .int .i64 0, .int .i64 0, .string ⟨#[]⟩]), 14, 120) := by kernel_rfl

theorem agg_fc (w : World) : (isAgg 56).run Tryz.prog w = .ok true w := by kernel_rfl
theorem size_fc (w : World) : (sizeOf 56).run Tryz.prog w = .ok 14 w := by kernel_rfl
@[go_sem ↓ high] theorem storeVar_fc (a : Addr) (v : Value) : storeVar 56 a v = storeWhole 56 a v := rfl
@[go_sem ↓ high] theorem loadVar_fc (a : Addr) : loadVar 56 a = loadWhole 56 a := rfl
@[go_sem] theorem run_store_fc (w : World) (b : Nat) (p : Bool) (s : ByteArray) (x1 x2 x3 x4 x5 x6 x7 x8 x9 x10 x11 x12 : Int) :
    (storeWhole 56 ⟨b, 0, none⟩ (.agg #[.bool p, .int .i64 x1, .int .i64 x2, .int .i64 x3, .int .i64 x4, .int .i64 x5, .int .i64 x6, .int .i64 x7, .int .i64 x8, .int .i64 x9, .int .i64 x10, .int .i64 x11, .int .i64 x12, .string s])).run Tryz.prog w =
      if World.cellsIn w b = 14 then .ok () (w.setRow b #[.bool p, .int .i64 x1, .int .i64 x2, .int .i64 x3, .int .i64 x4, .int .i64 x5, .int .i64 x6, .int .i64 x7, .int .i64 x8, .int .i64 x9, .int .i64 x10, .int .i64 x11, .int .i64 x12, .string s]) else (storeElse 56 ⟨b, 0, none⟩ (.agg #[.bool p, .int .i64 x1, .int .i64 x2, .int .i64 x3, .int .i64 x4, .int .i64 x5, .int .i64 x6, .int .i64 x7, .int .i64 x8, .int .i64 x9, .int .i64 x10, .int .i64 x11, .int .i64 x12, .string s])).run Tryz.prog w := by
  split
  · rename_i h
    refine run_storeWhole (n := 14) (vs := [.bool p, .int .i64 x1, .int .i64 x2, .int .i64 x3, .int .i64 x4, .int .i64 x5, .int .i64 x6, .int .i64 x7, .int .i64 x8, .int .i64 x9, .int .i64 x10, .int .i64 x11, .int .i64 x12, .string s]) (size_fc w) rfl (by decide) ?_ h
    (repeat (refine List.forall_mem_cons.2 ⟨rfl, ?_⟩))
    intro v hv
    cases hv
  · rfl
@[go_sem] theorem run_load_fc (w : World) (b : Nat) :
    (loadWhole 56 ⟨b, 0, none⟩).run Tryz.prog w = if World.cellsIn w b = 14 then .ok (.agg (World.cellsOf w b)) w else (loadElse 56 ⟨b, 0, none⟩).run Tryz.prog w := by
  split
  · rename_i h
    exact run_loadWhole (agg_fc w) (size_fc w) (by decide) h
  · rfl
/-- A face of a slice comes out of its place at once. -/
theorem load_fc_at {w : World} {b o : Nat} {f : Fc} (h : ∀ j u, (cellsF f)[j]? = some u → w.cell? ⟨b, o + j, none⟩ = some u) : (loadWhole 56 ⟨b, o, none⟩).run Tryz.prog w = .ok (fcV f) w := by
  have hl := run_loadCells_list (P := Tryz.prog) w ⟨b, o, none⟩ (cellsF f) (fun j v hj => by rw [Addr.add_lit]; exact h j v hj)
  unfold loadWhole loadVar
  rw [cellsF_len] at hl
  simp [hl]
  rfl
/-- What a slice of faces says at one place, as a walk takes it. -/
theorem fcs_at {w : World} {ao : Option Addr} {n c k : Nat} {l : List Fc} {f : Fc} (h : Fcs w (.slice ao n c) l) (hk : l[k]? = some f) :
    ∃ b o, ao = some ⟨b, o, none⟩ ∧ b < w.heap.size ∧ (∀ r, (loadWhole 56 ⟨b, o + k * 14, none⟩).run Tryz.prog (more w r) = .ok (fcV f) (more w r)) ∧ (loadWhole 56 ⟨b, o + k * 14, none⟩).run Tryz.prog w = .ok (fcV f) w := by
  rcases h with ⟨-, rfl⟩ | ⟨b, o, c', hv, -, hc⟩
  · simp at hk
  · injection hv with h1 h2 h3
    subst h1
    have h0 := hc k f hk 0 _ rfl
    have hb := World.block_lt_of_cell? w _ h0
    have hc' : ∀ j u, (cellsF f)[j]? = some u → w.cell? ⟨b, o + k * 14 + j, none⟩ = some u := fun j u hj => by rw [Nat.add_assoc]; exact hc k f hk j u hj
    refine ⟨b, o, rfl, hb, fun r => load_fc_at fun j u hj => ?_, load_fc_at hc'⟩
    rw [cell_more _ _ _ _ hb]
    exact hc' j u hj
@[reducible] def lnV (x : Ln) (lv : Value) : Value := .agg #[.string (bsOf x.name), .int .i64 x.back.c, .int .i64 x.back.s, lv]
end Go.Proofs.YtekhhekkepijoaaGreatDoor

namespace Go.Proofs.YtekhhekkepijoaaGreatDoor
set_option linter.unusedVariables false
open Go.ChangeShapes Go.WideShapes Go.ChangeAt Go.RowKit

def raw6 (f : RawF) : List Value := [.int .i64 f.kind, .int .i64 f.r, .int .i64 f.a, .int .i64 f.t, .int .i64 f.g, .int .i64 f.k]
def OkRaw (f : RawF) : Prop := (-9223372036854775808 ≤ f.kind ∧ f.kind ≤ 9223372036854775807) ∧ (-9223372036854775808 ≤ f.r ∧ f.r ≤ 9223372036854775807) ∧ (-9223372036854775808 ≤ f.a ∧ f.a ≤ 9223372036854775807) ∧
  (-9223372036854775808 ≤ f.t ∧ f.t ≤ 9223372036854775807) ∧ (-9223372036854775808 ≤ f.g ∧ f.g ≤ 9223372036854775807) ∧ (-9223372036854775808 ≤ f.k ∧ f.k ≤ 9223372036854775807)
/-- The cells of the slice v hold these raw faces. -/
def Raws (w : World) (v : Value) (l : List RawF) : Prop :=
  (l = [] ∧ ∃ a c, v = .slice a 0 c) ∨ ∃ b o c, v = .slice (some ⟨b, o, none⟩) l.length c ∧ ∀ k f, l[k]? = some f → ∀ j u, (raw6 f)[j]? = some u → w.cell? ⟨b, o + (k * 6 + j), none⟩ = some u

section
variable {H : Type} {enc : TypeId × Value → H} {P : Program} {w : World} {base : Nat} {spare : Nat → Bool} {held : Bool}
/-- A struct of six numbers, opened. -/
theorem open_raw {t e : TypeId} {fs : Array Field} {n : Nat} {cs : List Value} {x : DataW H × List MemPlace} (ht : P.underlying t = some (.struct fs)) (he : P.underlying e = some (.int .i64)) (hc : P.cellsOf e = 1) (hC : P.cellsOf t = 6)
    (hfs : ∀ i, i < 6 → ∃ f, fs[i]? = some f ∧ f.type = e ∧ f.offset = i) (hsz : fs.size = 6)
    (h : DataW.trod enc P w base spare held n t cs = some x) : ∃ f : RawF, cs = raw6 f ∧ OkRaw f := by
  obtain ⟨xs, m, -, -, hl, hlen, hf⟩ := DataW.trod_struct ht h
  rw [hC] at hl
  rw [hsz] at hlen
  have one : ∀ i, i < 6 → ∃ z : Int, cs[i]? = some (.int .i64 z) ∧ (Lit.int .i64 z).wf = true := by
    intro i hi
    obtain ⟨f, h1, h2, h3⟩ := hfs i hi
    have h4 := hf i f h1
    rw [h2, h3, hc] at h4
    rw [List.getElem?_eq_getElem (by omega)] at h4
    obtain ⟨z, e1, -, hw⟩ := DataW.trod_int he h4
    refine ⟨z, ?_, hw⟩
    have e2 : ((cs.drop i).take 1)[0]? = some (.int .i64 z) := by rw [e1]; rfl
    rw [List.getElem?_take_of_lt (by omega), List.getElem?_drop] at e2
    exact e2
  obtain ⟨c0, c1, c2, c3, c4, c5, rfl⟩ : ∃ c0 c1 c2 c3 c4 c5, cs = [c0, c1, c2, c3, c4, c5] := by
    match cs, hl with
    | [c0, c1, c2, c3, c4, c5], _ => exact ⟨_, _, _, _, _, _, rfl⟩
  obtain ⟨z0, e0, w0⟩ := one 0 (by omega)
  obtain ⟨z1, e1, w1⟩ := one 1 (by omega)
  obtain ⟨z2, e2, w2⟩ := one 2 (by omega)
  obtain ⟨z3, e3, w3⟩ := one 3 (by omega)
  obtain ⟨z4, e4, w4⟩ := one 4 (by omega)
  obtain ⟨z5, e5, w5⟩ := one 5 (by omega)
  obtain rfl := Option.some.inj e0
  obtain rfl := Option.some.inj e1
  obtain rfl := Option.some.inj e2
  obtain rfl := Option.some.inj e3
  obtain rfl := Option.some.inj e4
  obtain rfl := Option.some.inj e5
  exact ⟨⟨z0, z1, z2, z3, z4, z5⟩, rfl, bounds_i64 w0, bounds_i64 w1, bounds_i64 w2, bounds_i64 w3, bounds_i64 w4, bounds_i64 w5⟩
end
theorem open_raws_all {H : Type} {enc : TypeId × Value → H} {P : Program} {w : World} {t e s : TypeId} {fs : Array Field} {v : Value} {d : DataW H} {ps : List MemPlace} (ht : P.underlying t = some (.slice s)) (hs : P.underlying s = some (.struct fs)) (he : P.underlying e = some (.int .i64)) (hc : P.cellsOf e = 1) (hC : P.cellsOf s = 6)
    (hfs : ∀ i, i < 6 → ∃ f, fs[i]? = some f ∧ f.type = e ∧ f.offset = i) (hsz : fs.size = 6)
    (hv : ∃ a len cap, v = .slice a len cap) (h : DataW.Trod enc P w 0 (fun _ => true) true t v d ps) :
    ∃ l, Raws w v l ∧ (∀ f ∈ l, OkRaw f) ∧ l.length ≤ 9223372036854775807 := by
  obtain ⟨a0, len, cap, rfl⟩ := hv
  obtain ⟨fuel, hf⟩ := h
  rcases Go.Deep.open_slice ht hf with ⟨hcs, hx⟩ | ⟨a, len', cap', m, n, D, Pl, hcs, _, hl, hm, hmm, hx, hel⟩
  · simp [Value.cells] at hcs
    obtain ⟨rfl, rfl, rfl⟩ := hcs
    exact ⟨[], .inl ⟨rfl, _, _, rfl⟩, by simp, by simp⟩
  · simp [Value.cells] at hcs
    obtain ⟨rfl, rfl, rfl⟩ := hcs
    simp only [maxLen] at hm
    simp only [if_true] at hmm
    subst hmm
    by_cases h0 : len = 0
    · subst h0
      exact ⟨[], .inl ⟨rfl, _, _, rfl⟩, by simp, by simp⟩
    · rw [hC] at hel
      have each : ∀ i, i < len → ∃ f : RawF, OkRaw f ∧ ∀ j u, (raw6 f)[j]? = some u → w.cell? (a.add (i * 6 + j)) = some u := by
        intro i hi
        obtain ⟨cs, h1, h2⟩ := hel i (by omega)
        obtain ⟨f, rfl, hok⟩ := open_raw hs he hc hC hfs hsz h2
        refine ⟨f, hok, fun j u hu => ?_⟩
        obtain ⟨_, _, hcell⟩ := World.cells?_some h1
        have hj : j < 6 := (List.getElem?_eq_some_iff.1 hu).1
        have := hcell j hj
        rw [hu, Go.Deep.add_add] at this
        exact this
      haveI : Inhabited RawF := ⟨R0⟩
      obtain ⟨F, hF⟩ := Go.Deep.choose_lt (α := RawF) (n := len) each
      obtain ⟨b, off, spot⟩ := a
      have hspot : spot = none := by
        have := (hF 0 (by omega)).2 0 _ rfl
        simpa [Addr.add] using World.cell?_spot this
      subst hspot
      have hlen : ((List.range len).map F).length = len := by simp
      refine ⟨(List.range len).map F, .inr ⟨b, off, _, by rw [hlen], fun k f hk j u hu => ?_⟩, fun f hf => ?_, by rw [hlen]; omega⟩
      · have hk' : k < len := by
          have := (List.getElem?_eq_some_iff.1 hk).1
          omega
        have e1 : F k = f := by simpa [hk'] using hk
        subst e1
        have := (hF k hk').2 j u hu
        rwa [Addr.add_lit] at this
      · obtain ⟨i, hi, rfl⟩ := List.mem_map.1 hf
        exact (hF i (List.mem_range.1 hi)).1
theorem raws_form {w : World} {v : Value} {l : List RawF} (h : Raws w v l) : ∃ ao c, v = .slice ao l.length c ∧ (0 < l.length → ∃ b o, ao = some ⟨b, o, none⟩ ∧ b < w.heap.size ∧ ∀ k f, l[k]? = some f → ∀ j u, (raw6 f)[j]? = some u → w.cell? ⟨b, o + (k * 6 + j), none⟩ = some u) := by
  rcases h with ⟨rfl, a, c, rfl⟩ | ⟨b, o, c, rfl, hc⟩
  · exact ⟨a, c, rfl, fun h => by simp at h⟩
  · refine ⟨_, c, rfl, fun h0 => ⟨b, o, rfl, ?_, hc⟩⟩
    obtain ⟨f, r, rfl⟩ := List.exists_cons_of_length_pos h0
    have := hc 0 f rfl 0 _ rfl
    exact World.block_lt_of_cell? w _ this
theorem cell_up {w W : World} (h : More w W) {b o : Nat} {v : Value} (hc : w.cell? ⟨b, o, none⟩ = some v) : W.cell? ⟨b, o, none⟩ = some v := by
  obtain ⟨r, rfl⟩ := h
  rw [cell_more _ _ _ _ (World.block_lt_of_cell? w _ hc)]
  exact hc
theorem Raws.up {w w' : World} {v : Value} {l : List RawF} (h : Raws w v l) (hm : More w w') : Raws w' v l := by
  rcases h with h | ⟨b, o, c, hv, hc⟩
  · exact .inl h
  · exact .inr ⟨b, o, c, hv, fun k f hk j u hu => by
      have h1 := hc k f hk j u hu
      exact cell_up hm h1⟩
end Go.Proofs.YtekhhekkepijoaaGreatDoor

namespace Go.Proofs.YtekhhekkepijoaaGreatDoor
set_option linter.unusedVariables false
open Go.ChangeShapes Go.WideShapes Go.ChangeAt Go.RowKit

set_option maxHeartbeats 4000000 in
theorem some_c (v : Value) (l : List Fc) (W : World) (hv : Fcs W v l) (hl : l.length ≤ 1000000) : Calls Tryz.prog 40 #[v] W fun e w' => e = .returned (.bool (l.any fun f => !f.stop)) ∧ More W w' := by
  obtain ⟨ao, c, rfl, h0⟩ := grow_form fcs_pos hv
  go_enter Tryz.func40, Tryz.ntmps40
  go_wp2_with fail
  go_loopw [3] (fun x wr => ∃ k : Nat, k ≤ l.length ∧ x = .int .i64 k ∧ ((l.take k).all Fc.stop = true) ∧ wr = W) (fun x _ => l.length - (intOf x).toNat)
  case atStart => exact ⟨0, by omega, rfl, rfl, rfl⟩
  case round =>
    obtain ⟨k, hk, rfl, ha, rfl⟩ := hrel
    have HA := Lib.hid ha
    clear ha
    by_cases hkl : k < l.length
    · obtain ⟨b, o, rfl, hb, hc⟩ := h0 (by omega)
      obtain ⟨f, hf⟩ : ∃ f, l[k]? = some f := ⟨l[k], List.getElem?_eq_getElem hkl⟩
      have f0 := hc k f hf 0 _ rfl
      simp only [Nat.add_zero] at f0
      have HF := Lib.hid hf
      clear hf hc h0 hv
      cases hs : f.stop with
      | false =>
        rw [hs] at f0
        have HS := Lib.hid hs
        clear hs
        go_wp2_with fail
        go_returns
        refine ⟨?_, (by repeat (first | exact More.refl _ | refine More.alloc ?_ _ | refine More.more ?_ _ | refine More.drew ?_ | refine More.drewN ?_ _))⟩
        have : (l.any fun f => !f.stop) = true := List.any_eq_true.2 ⟨f, List.mem_of_getElem? HF.out, by rw [HS.out]; rfl⟩
        rw [this]
        rfl
      | true =>
        rw [hs] at f0
        have HS := Lib.hid hs
        clear hs
        go_wp2_with fail
        go_roundw
        case rel =>
          refine ⟨k + 1, by omega, rfl, ?_, by first | rfl | trivial⟩
          rw [List.take_add_one, HF.out, List.all_append, HA.out]
          simp [HS.out]
        case measure => simp [intOf] <;> omega
    · obtain rfl : k = l.length := by omega
      clear h0 hv
      go_wp2_with fail
      go_returns
      refine ⟨?_, (by repeat (first | exact More.refl _ | refine More.alloc ?_ _ | refine More.more ?_ _ | refine More.drew ?_ | refine More.drewN ?_ _))⟩
      have h1 := HA.out
      rw [List.take_length] at h1
      have : (l.any fun f => !f.stop) = false := by
        rw [List.any_eq_false]
        intro f hf
        simp [List.all_eq_true.1 h1 f hf]
      rw [this]
      rfl

end Go.Proofs.YtekhhekkepijoaaGreatDoor
