/-
  A function value that is asked, and what it leaves behind: a world that stands on a state of its own ('base s'), blocks behind it; each question turns the state, and lays more blocks. A label to which the run goes onward.
-/
import Derived.Test.YtggohceeeggnmaaGc
import Derived.Test.YtggohceeeggnmaaIvDiv
import Derived.Test.YtggohceeeggnmaaAsk2
import Derived.ScopeJumps
import Derived.WalkMore
import Derived.Shelf.Abstract
namespace Go.Proofs.Ytggohceeeggnmaa
set_option linter.unusedVariables false
open Go.ChangeShapes Go.WideShapes Go.ChangeAt Go.RowKit

/-- A function value that encloses a function and its slope. -/
structure Asker where
  σ : Type
  base : σ → World
  N : Nat
  size : ∀ s, (base s).heap.size = N
  step : σ → Iv → σ
  F : Iv → Iv × Iv
  g : Nat
  cap : Array Value
  enters : ∀ args w, (callFunc g args).run Try.prog w = .ok (.enter g args) w
  ok : ∀ s x R, Calls Try.prog g (#[ivV x] ++ cap) (more (base s) R) fun e w' => e = .returned (.tuple #[ivV (F x).1, ivV (F x).2]) ∧ More (more (base (step s x)) R) w'
namespace Asker
attribute [go_sem] Asker.size Asker.enters
variable (A : Asker)
def run (s : A.σ) (l : List Iv) : A.σ := l.foldl A.step s
theorem run_run (s : A.σ) (l k : List Iv) : A.run (A.run s l) k = A.run s (l ++ k) := by
  unfold run; rw [List.foldl_append]
theorem call {s : A.σ} {W W' : World} {R : Rest} {x : Iv} (hm : Moved (A.base s) (A.base (A.run s [x])) W W' R) :
    Calls Try.prog A.g (#[ivV x] ++ A.cap) W fun e w' => e = .returned (.tuple #[ivV (A.F x).1, ivV (A.F x).2]) ∧ More W' w' := by
  obtain ⟨rfl, rfl⟩ := hm
  exact A.ok s x R
end Asker

/-! A function value against nil. -/
section
variable (fn : Fn) (a b : Array Value) (w : World)
@[go_sem] theorem run_eql_fn : (binOp .eql 121 (.func fn a b) .nilFunc).run Try.prog w = .ok (.bool false) w := by kernel_rfl
@[go_sem] theorem run_eql_nofn : (binOp .eql 121 .nilFunc .nilFunc).run Try.prog w = .ok (.bool true) w := by kernel_rfl
end

/-! A goto onward. -/
theorem wp_scope_onward {P : Program} {a : Act} {w : World} {Q : Exit → Act → World → Prop} {c rest : Code} (l : Nat) (hf : findLabel c l = some rest)
    (first : c.wp P (Exit.jump l (fun a w => rest.wp P (Exit.noGoto Q) a w) Q) a w) : (Code.scope c).wp P Q a w := by
  refine wp_scope_jumps l _ (fun _ _ => 0) hf first fun a w h => ?_
  intro b k cs
  obtain ⟨e, a₁, w₁, hq, harr⟩ := h b k cs
  refine ⟨e, a₁, w₁, ?_, harr⟩
  cases e with
  | goto l' => exact hq.elim
  | normal => exact hq
  | exit id => exact hq
  | ret => exact hq
  | panic ch => exact hq
  | outgrown => exact hq
section
variable {Q : Exit → Act → World → Prop} {J : Act → World → Prop} {a : Act} {w : World} {l : Nat}
@[go_sem] theorem Exit.jump_normal : Exit.jump l J Q .normal a w = Q .normal a w := rfl
@[go_sem] theorem Exit.jump_exit (id : Nat) : Exit.jump l J Q (.exit id) a w = Q (.exit id) a w := rfl
@[go_sem] theorem Exit.jump_ret : Exit.jump l J Q .ret a w = Q .ret a w := rfl
@[go_sem] theorem Exit.jump_panic (ch : List PanicEntry) : Exit.jump l J Q (.panic ch) a w = Q (.panic ch) a w := rfl
end
end Go.Proofs.Ytggohceeeggnmaa

