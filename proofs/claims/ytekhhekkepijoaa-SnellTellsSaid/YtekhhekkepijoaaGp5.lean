/-
  An array of six numbers among a statement's parameters: opened, and shut.
-/
import Derived.Test.YtekhhekkepijoaaGq5
import Derived.Test.YtekhhekkepijoaaGa
import Derived.OpenShut

namespace Go.Proofs.Ytekhhekkepijoaa
set_option linter.unusedVariables false
open Go.ChangeShapes Go.WideShapes Go.ChangeAt Go.RowKit

section
variable {H : Type} {enc : TypeId × Value → H} {P : Program} {w : World} {base : Nat} {spare : Nat → Bool} {held : Bool} {r : Reach} {b0 : Nat} {t e : TypeId} {v : Value} {d : DataW H} {ps : List MemPlace}

theorem wf_in64 {n : Int} (h : In64 n) : (Lit.int .i64 n).wf = true := by
  simp [Lit.wf, IntKind.min, IntKind.max, IntKind.signed, IntKind.bits]
  have := h.1
  have := h.2
  omega

theorem open_six (ht : P.underlying t = some (.array 6 e)) (he : P.underlying e = some (.int .i64)) (hc : P.cellsOf e = 1) (hC : P.cellsOf t = 6) (hval : Value.okWide P w r b0 t v) (hd : DataW.Trod enc P w base spare held t v d ps) :
    ∃ s : Six, OkSix s ∧ v = sixV s ∧ d = .agg [.lit (.int .i64 s.a), .lit (.int .i64 s.b), .lit (.int .i64 s.c), .lit (.int .i64 s.d), .lit (.int .i64 s.e), .lit (.int .i64 s.f)] ∧ ps = [] := by
  obtain ⟨cs, rfl, hsz⟩ : ∃ cs : Array Value, v = .agg cs ∧ cs.size = 6 := by
    simp only [Value.okWide, ht] at hval
    obtain ⟨cs, h1, h2, _⟩ := hval
    exact ⟨cs, h1, by rw [h2, hC]⟩
  obtain ⟨fuel, hf⟩ := hd
  obtain ⟨xs, m, rfl, hx, hl, hlen, hf⟩ := DataW.trod_array ht hf
  simp only [hc, Nat.mul_one] at hf
  obtain ⟨l⟩ := cs
  match l, hsz, xs, hlen with
  | [c0, c1, c2, c3, c4, c5], _, [y0, y1, y2, y3, y4, y5], _ =>
    have h0 := hf 0 (by omega)
    have h1 := hf 1 (by omega)
    have h2 := hf 2 (by omega)
    have h3 := hf 3 (by omega)
    have h4 := hf 4 (by omega)
    have h5 := hf 5 (by omega)
    simp [Value.cells] at h0 h1 h2 h3 h4 h5
    obtain ⟨n0, e0, rfl, w0⟩ := DataW.trod_int he h0
    obtain ⟨n1, e1, rfl, w1⟩ := DataW.trod_int he h1
    obtain ⟨n2, e2, rfl, w2⟩ := DataW.trod_int he h2
    obtain ⟨n3, e3, rfl, w3⟩ := DataW.trod_int he h3
    obtain ⟨n4, e4, rfl, w4⟩ := DataW.trod_int he h4
    obtain ⟨n5, e5, rfl, w5⟩ := DataW.trod_int he h5
    simp at e0 e1 e2 e3 e4 e5
    subst e0 e1 e2 e3 e4 e5
    simp only [Prod.mk.injEq] at hx
    exact ⟨⟨n0, n1, n2, n3, n4, n5⟩, ⟨bounds_i64 w0, bounds_i64 w1, bounds_i64 w2, bounds_i64 w3, bounds_i64 w4, bounds_i64 w5⟩, rfl, by rw [hx.1]; rfl, by rw [hx.2]; rfl⟩

theorem shut_six (ht : P.underlying t = some (.array 6 e)) (he : P.underlying e = some (.int .i64)) (hc : P.cellsOf e = 1) (hC : P.cellsOf t = 6) {s : Six} (h : OkSix s) :
    DataW.Trod enc P w base spare held t (sixV s) (.agg [.lit (.int .i64 s.a), .lit (.int .i64 s.b), .lit (.int .i64 s.c), .lit (.int .i64 s.d), .lit (.int .i64 s.e), .lit (.int .i64 s.f)]) [] :=
  ⟨2, by
    obtain ⟨h0, h1, h2, h3, h4, h5⟩ := h
    show DataW.trod enc P w base spare held (1 + 1) t [.int .i64 s.a, .int .i64 s.b, .int .i64 s.c, .int .i64 s.d, .int .i64 s.e, .int .i64 s.f] = _
    rw [DataW.trod_step]
    unfold DataW.trodStep
    simp only [ht]
    rw [if_pos (by rw [hC]; rfl), show List.range 6 = [0, 1, 2, 3, 4, 5] from rfl]
    simp only [List.mapM_cons, List.mapM_nil]
    simp [hc, DataW.trod, he, wf_in64 h0, wf_in64 h1, wf_in64 h2, wf_in64 h3, wf_in64 h4, wf_in64 h5]⟩

end

end Go.Proofs.Ytekhhekkepijoaa
