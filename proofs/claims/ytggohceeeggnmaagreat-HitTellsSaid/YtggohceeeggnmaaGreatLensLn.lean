/-
  A lens is read: the loop over its lines.
-/
import Derived.Test.YtggohceeeggnmaaGreatLensRdMath
import Derived.Test.YtggohceeeggnmaaGreatGe
import Derived.Test.YtggohceeeggnmaaGreatAsk2
import Derived.Test.YtggohceeeggnmaaGreatGlass
import Derived.Test.YtggohceeeggnmaaGreatGz5
import Derived.Test.YtggohceeeggnmaaGreatGl
import Derived.Test.YtggohceeeggnmaaGreatGlassRdW
import Derived.Deep.RegionHeld3
import Derived.Deep.AppendLies
import Derived.Maps.AppendAt
import Derived.RegionTactic
import Derived.OwnWalk
namespace Go.Proofs.YtggohceeeggnmaaGreat
set_option linter.unusedVariables false
open Go.ChangeShapes Go.WideShapes Go.ChangeAt Go.RowKit

/-! ### The loop over lines -/
theorem step_append_w {P : Program} {W2 w1 : World} {ops : Array Oper} {o : Oper} {a : Act} {K : Act → World → Prop} {Q : Exit → Act → World → Prop} {E : Prop}
    (hg : o.guard = none) (sl x : Operand) (t : TypeId) (hop : o.op = Op.call { callee := Callee.builtin Builtin.append, args := #[sl, x], argTypes := #[t, t] })
    (e : TypeId) (i : TypeInfo) (z : Value) (size bytes : Nat) (h1 : P.underlying t = some (.slice e)) (h2 : P.info? e = some i) (h3 : i.zero = some z) (h4 : i.size = size) (h5 : i.bytes = bytes) (h6 : z.cells.size = size) (h7 : 0 < size)
    (v : Value) (n : Nat) (xs : List Value) (base : Nat) (hb : base = W2.heap.size) (hs : a.eval sl = v) (hown : OwnW W2 w1 base e size v n xs)
    (news : List Value) (c b : Nat) (hx : a.eval x = .slice (some ⟨b, 0, none⟩) 1 c) (hbx : b = w1.heap.size) (hn : news.length = size) (h1c : ∀ u ∈ news, u.oneCell' = true)
    (b1 : n + 1 ≤ maxLen) (b2 : (n + 1) * bytes ≤ 140737488355328)
    (hK : ∀ g cap w', OwnW W2 w' base e size (.slice (some ⟨g, 0, none⟩) (n + 1) cap) (n + 1) (xs ++ news) → K (a.put o.dst (.slice (some ⟨g, 0, none⟩) (n + 1) cap)) w') :
    if Region.wanted o (yielded ops a.tmps) = true then Oper.wp P o a (w1.alloc (.cells news.toArray e)) K Q else E := by
  subst hb hbx
  obtain ⟨s, rfl, h⟩ := hown
  have hw := owns_alloc (o := .cells news.toArray e) (h W2 rfl)
  refine step_append_lies _ hg sl x t hop W2.heap.size e i z size bytes h1 h2 h3 h4 h5 h6 h7 v n xs hs hw ⟨_, 0, none⟩ 1 c news hx (by rw [hn, Nat.one_mul]) (new_row news rfl) h1c (by decide) b1 b2 (by simp; omega) _ rfl ?_
  intro g cap w' ho hgr _ _
  have hbl : Below W2.heap.size W2 w' := by
    have h0 : Below W2.heap.size W2 (more W2 s) := (More.more (More.refl W2) s).below
    exact (h0.alloc (by simp) _).grown hgr (by simp; omega) (fun g hg => (hw.lt g hg).1)
  obtain ⟨s', rfl⟩ := more_of_below hbl
  exact hK g cap _ ⟨s', rfl, OwnS.of rfl ho⟩

end Go.Proofs.YtggohceeeggnmaaGreat

