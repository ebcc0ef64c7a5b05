/-
  The plain saying's function of a sum of powers: a struct of forty-three cells.
-/
import Derived.Test.YtggohceeeggnmaaGreatRef7
import Derived.Test.YtggohceeeggnmaaGreatGa
namespace Go.Proofs.YtggohceeeggnmaaGreat
set_option linter.unusedVariables false
open Go.ChangeShapes Go.WideShapes Go.ChangeAt Go.RowKit

/-- A sum of powers as a function: the slice of its intervals. -/
structure Fv where
  ad : Option Addr
  n : Nat
  c : Nat
@[reducible] def fnV (f : Fv) : Value := .agg #[.slice f.ad f.n f.c, .bool false, .bool false, .bool false, .int .i64 0, .int .i64 0, .bool false, .int .i64 0, .int .i64 0, .bool false, .int .i64 0, .int .i64 0, .bool false, .int .i64 0, .int .i64 0, .bool false, .int .i64 0, .int .i64 0, .bool false, .int .i64 0, .int .i64 0, .bool false, .int .i64 0, .int .i64 0, .bool false, .int .i64 0, .int .i64 0, .bool false, .int .i64 0, .int .i64 0, .bool false, .int .i64 0, .int .i64 0, .bool false, .int .i64 0, .int .i64 0, .bool false, .int .i64 0, .int .i64 0, .bool false, .int .i64 0, .int .i64 0, .bool false]
theorem agg_fn (w : World) : (isAgg 84).run Tryz.prog w = .ok true w := by kernel_rfl
theorem size_fn (w : World) : (sizeOf 84).run Tryz.prog w = .ok 43 w := by kernel_rfl
@[go_sem ↓ high] theorem storeVar_fn (a : Addr) (v : Value) : storeVar 84 a v = storeWhole 84 a v := rfl
@[go_sem ↓ high] theorem loadVar_fn (a : Addr) : loadVar 84 a = loadWhole 84 a := rfl
set_option maxHeartbeats 4000000 in
@[go_sem] theorem run_store_fn (w : World) (b : Nat) (ad : Option Addr) (n c : Nat) :
    (storeWhole 84 ⟨b, 0, none⟩ (.agg #[.slice ad n c, .bool false, .bool false, .bool false, .int .i64 0, .int .i64 0, .bool false, .int .i64 0, .int .i64 0, .bool false, .int .i64 0, .int .i64 0, .bool false, .int .i64 0, .int .i64 0, .bool false, .int .i64 0, .int .i64 0, .bool false, .int .i64 0, .int .i64 0, .bool false, .int .i64 0, .int .i64 0, .bool false, .int .i64 0, .int .i64 0, .bool false, .int .i64 0, .int .i64 0, .bool false, .int .i64 0, .int .i64 0, .bool false, .int .i64 0, .int .i64 0, .bool false, .int .i64 0, .int .i64 0, .bool false, .int .i64 0, .int .i64 0, .bool false])).run Tryz.prog w =
      if World.cellsIn w b = 43 then .ok () (w.setRow b #[.slice ad n c, .bool false, .bool false, .bool false, .int .i64 0, .int .i64 0, .bool false, .int .i64 0, .int .i64 0, .bool false, .int .i64 0, .int .i64 0, .bool false, .int .i64 0, .int .i64 0, .bool false, .int .i64 0, .int .i64 0, .bool false, .int .i64 0, .int .i64 0, .bool false, .int .i64 0, .int .i64 0, .bool false, .int .i64 0, .int .i64 0, .bool false, .int .i64 0, .int .i64 0, .bool false, .int .i64 0, .int .i64 0, .bool false, .int .i64 0, .int .i64 0, .bool false, .int .i64 0, .int .i64 0, .bool false, .int .i64 0, .int .i64 0, .bool false]) else (storeElse 84 ⟨b, 0, none⟩ (fnV ⟨ad, n, c⟩)).run Tryz.prog w := by
  split
  · rename_i h
    refine run_storeWhole (n := 43) (b := b) (size_fn w) rfl (by decide) ?_ h
    (repeat (refine List.forall_mem_cons.2 ⟨rfl, ?_⟩))
    intro v hv
    cases hv
  · rfl
@[go_sem] theorem run_load_fn (w : World) (b : Nat) :
    (loadWhole 84 ⟨b, 0, none⟩).run Tryz.prog w = if World.cellsIn w b = 43 then .ok (.agg (World.cellsOf w b)) w else (loadElse 84 ⟨b, 0, none⟩).run Tryz.prog w := by
  split
  · rename_i h
    exact run_loadWhole (agg_fn w) (size_fn w) (by decide) h
  · rfl

set_option maxHeartbeats 4000000 in
theorem sure_c (v : Iv) (W : World) :
    Calls Tryz.prog 92 #[ivV v] W fun e w' => e = .returned (.bool (sureB v)) ∧ More W w' := by
  unfold sureB
  cases h : ivRight v
  all_goals
    go_enter Tryz.func92, Tryz.ntmps92
    go_wp2_with (first | (go_at_call 85; (with_reducible refine (rright_c _ _).mono ?_); rintro e w' ⟨rfl, r, rfl⟩) | (go_at_call 85; (with_reducible refine (rright_c ⟨_, _, _⟩ _).mono ?_); rintro e w' ⟨rfl, r, rfl⟩) | (go_at_call 120; (with_reducible refine (rhas_c _ _ _).mono ?_); rintro e w' ⟨rfl, r, rfl⟩) | (go_at_call 120; (with_reducible refine (rhas_c ⟨_, _, _⟩ _ _).mono ?_); rintro e w' ⟨rfl, r, rfl⟩))
    go_returns
    exact ⟨rfl, (by repeat (first | exact More.refl _ | refine More.alloc ?_ _ | refine More.more ?_ _ | refine More.drew ?_ | refine More.drewN ?_ _))⟩

set_option maxHeartbeats 4000000 in
theorem fnone_c  (W : World) :
    Calls Tryz.prog 46 #[] W fun e w' => e = .returned (ivV ivNone) ∧ More W w' := by
  go_enter Tryz.func46, Tryz.ntmps46
  go_wp2_with (first | (go_at_call 73; (with_reducible refine (rnone_c _).mono ?_); rintro e w' ⟨rfl, r, rfl⟩))
  go_returns
  exact ⟨rfl, (by repeat (first | exact More.refl _ | refine More.alloc ?_ _ | refine More.more ?_ _ | refine More.drew ?_ | refine More.drewN ?_ _))⟩

end Go.Proofs.YtggohceeeggnmaaGreat

