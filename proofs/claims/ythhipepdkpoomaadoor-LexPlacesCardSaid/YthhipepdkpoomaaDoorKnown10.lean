/-
  Chapter 10's example and the other known texts.
-/
import Derived.Test.YthhipepdkpoomaaDoorTokens
import Derived.Deep.OwnRows
namespace Go.Proofs.YthhipepdkpoomaaDoor
set_option linter.unusedVariables false
open Go.ChangeShapes Go.WideShapes Go.ChangeAt Go.RowKit

theorem at_calls {P : Program} {f : FuncId} {x : Array Value} {Q : Ending → World → Prop} {w W : World} {R : World → Prop} (hm : More w W) (hr : R W) (h : ∀ W1, More w W1 → R W1 → Calls P f x W1 Q) : Calls P f x W Q := h W hm hr
theorem tokens_k {x : Lexed} (l : List UInt8) (hx : lexP l = x) (hz : l.length ≤ 9223372036854775807) (W : World) : Calls Tryd.prog 7 #[.string (bsOf l)] W fun e w' => ∃ v', e = .returned (.tuple #[v', plV2 x.line x.col, .int .i64 x.err]) ∧ More W w' ∧ GRow tk3 3 w' v' x.toks := by
  subst hx
  exact tokens_c l hz W

set_option maxHeartbeats 4000000 in
theorem why_k {x : Lexed} (l : List UInt8) (hx : lexP l = x) (hz : l.length ≤ 9223372036854775807) (W : World) : Calls Tryd.prog 9 #[.string (bsOf l)] W fun e w' => e = .returned (.tuple #[plV2 x.line x.col, .int .i64 x.err]) ∧ More W w' := by
  go_enter Tryd.func9, Tryd.ntmps9
  go_wp2_with (first | (go_at_call 7; (with_reducible refine Calls.mono (tokens_k l hx hz _) ?_); rintro e w' ⟨v', rfl, ⟨r, rfl⟩, hr⟩))
  go_returns
  exact ⟨rfl, (by repeat (first | exact More.refl _ | refine More.alloc ?_ _ | refine More.more ?_ _ | refine More.drew ?_ | refine More.drewN ?_ _))⟩

theorem nwk_0 : nw 0 = 0 := by rw [nw_eq]; decide +kernel
theorem nwk_1 : nw 1 = 4607182418800017408 := by rw [nw_eq]; decide +kernel
theorem nwk_2 : nw 2 = 4611686018427387904 := by rw [nw_eq]; decide +kernel
theorem nwk_3 : nw 3 = 4613937818241073152 := by rw [nw_eq]; decide +kernel
theorem nwk_4 : nw 4 = 4616189618054758400 := by rw [nw_eq]; decide +kernel
theorem nwk_5 : nw 5 = 4617315517961601024 := by rw [nw_eq]; decide +kernel
theorem nwk_6 : nw 6 = 4618441417868443648 := by rw [nw_eq]; decide +kernel
theorem nwk_12 : nw 12 = 4622945017495814144 := by rw [nw_eq]; decide +kernel

theorem ktok_0 (W : World) : Calls Tryd.prog 7 #[.string ⟨#[97, 32, 49, 46, 53]⟩] W fun e w' => ∃ b o c, e = .returned (.tuple #[.slice (some ⟨b, o, none⟩) 3 c, .complex .f64 0 0, .int .i64 0]) ∧ More W w' ∧ b < w'.heap.size ∧ w'.cell? ⟨b, o, none⟩ = some (.int .i64 1) ∧ w'.cell? ⟨b, o + 1, none⟩ = some (.string ⟨#[97]⟩) ∧ w'.cell? ⟨b, o + 2, none⟩ = some (.complex .f64 4607182418800017408 4607182418800017408) ∧ w'.cell? ⟨b, o + 3, none⟩ = some (.int .i64 2) ∧ w'.cell? ⟨b, o + 4, none⟩ = some (.string ⟨#[49, 46, 53]⟩) ∧ w'.cell? ⟨b, o + 5, none⟩ = some (.complex .f64 4607182418800017408 4613937818241073152) ∧ w'.cell? ⟨b, o + 6, none⟩ = some (.int .i64 3) ∧ w'.cell? ⟨b, o + 7, none⟩ = some (.string ⟨#[]⟩) ∧ w'.cell? ⟨b, o + 8, none⟩ = some (.complex .f64 4607182418800017408 4618441417868443648) := by
  refine (tokens_k (x := ⟨[⟨1, [97], 1, 1⟩, ⟨2, [49, 46, 53], 1, 3⟩, ⟨3, [], 1, 6⟩], 0, 0, 0⟩) [97, 32, 49, 46, 53] (by kernel_rfl) (by decide) W).mono ?_
  rintro e w' ⟨v', rfl, hm, hr⟩
  obtain ⟨ao, c, rfl, hc⟩ := grow_form (fun _ => by rw [tk3_len]; decide) hr
  obtain ⟨b, o, rfl, hb, hd⟩ := hc (by decide)
  refine ⟨b, o, c, ?_, hm, hb, ?_, ?_, ?_, ?_, ?_, ?_, ?_, ?_, ?_⟩
  · simp only [plV2, nwk_0]; rfl
  · exact hd 0 _ rfl 0 (.int .i64 1) rfl
  · exact hd 0 _ rfl 1 (.string ⟨#[97]⟩) rfl
  · have h := hd 0 _ rfl 2 (.complex .f64 (nw 1) (nw 1)) rfl; simp only [nwk_1] at h; exact h
  · exact hd 1 _ rfl 0 (.int .i64 2) rfl
  · exact hd 1 _ rfl 1 (.string ⟨#[49, 46, 53]⟩) rfl
  · have h := hd 1 _ rfl 2 (.complex .f64 (nw 1) (nw 3)) rfl; simp only [nwk_1, nwk_3] at h; exact h
  · exact hd 2 _ rfl 0 (.int .i64 3) rfl
  · exact hd 2 _ rfl 1 (.string ⟨#[]⟩) rfl
  · have h := hd 2 _ rfl 2 (.complex .f64 (nw 1) (nw 6)) rfl; simp only [nwk_1, nwk_6] at h; exact h

theorem ktok_1 (W : World) : Calls Tryd.prog 7 #[.string ⟨#[10, 32, 32, 97, 45, 98, 95, 50, 32, 35, 32, 99, 10, 35, 32, 100, 10, 9, 45, 51, 120, 10]⟩] W fun e w' => ∃ b o c, e = .returned (.tuple #[.slice (some ⟨b, o, none⟩) 5 c, .complex .f64 0 0, .int .i64 0]) ∧ More W w' ∧ b < w'.heap.size ∧ w'.cell? ⟨b, o, none⟩ = some (.int .i64 1) ∧ w'.cell? ⟨b, o + 1, none⟩ = some (.string ⟨#[97, 45, 98, 95, 50]⟩) ∧ w'.cell? ⟨b, o + 2, none⟩ = some (.complex .f64 4611686018427387904 4613937818241073152) ∧ w'.cell? ⟨b, o + 3, none⟩ = some (.int .i64 3) ∧ w'.cell? ⟨b, o + 4, none⟩ = some (.string ⟨#[]⟩) ∧ w'.cell? ⟨b, o + 5, none⟩ = some (.complex .f64 4611686018427387904 4622945017495814144) ∧ w'.cell? ⟨b, o + 6, none⟩ = some (.int .i64 2) ∧ w'.cell? ⟨b, o + 7, none⟩ = some (.string ⟨#[45, 51]⟩) ∧ w'.cell? ⟨b, o + 8, none⟩ = some (.complex .f64 4616189618054758400 4611686018427387904) ∧ w'.cell? ⟨b, o + 9, none⟩ = some (.int .i64 1) ∧ w'.cell? ⟨b, o + 10, none⟩ = some (.string ⟨#[120]⟩) ∧ w'.cell? ⟨b, o + 11, none⟩ = some (.complex .f64 4616189618054758400 4616189618054758400) ∧ w'.cell? ⟨b, o + 12, none⟩ = some (.int .i64 3) ∧ w'.cell? ⟨b, o + 13, none⟩ = some (.string ⟨#[]⟩) ∧ w'.cell? ⟨b, o + 14, none⟩ = some (.complex .f64 4616189618054758400 4617315517961601024) := by
  refine (tokens_k (x := ⟨[⟨1, [97, 45, 98, 95, 50], 2, 3⟩, ⟨3, [], 2, 12⟩, ⟨2, [45, 51], 4, 2⟩, ⟨1, [120], 4, 4⟩, ⟨3, [], 4, 5⟩], 0, 0, 0⟩) [10, 32, 32, 97, 45, 98, 95, 50, 32, 35, 32, 99, 10, 35, 32, 100, 10, 9, 45, 51, 120, 10] (by kernel_rfl) (by decide) W).mono ?_
  rintro e w' ⟨v', rfl, hm, hr⟩
  obtain ⟨ao, c, rfl, hc⟩ := grow_form (fun _ => by rw [tk3_len]; decide) hr
  obtain ⟨b, o, rfl, hb, hd⟩ := hc (by decide)
  refine ⟨b, o, c, ?_, hm, hb, ?_, ?_, ?_, ?_, ?_, ?_, ?_, ?_, ?_, ?_, ?_, ?_, ?_, ?_, ?_⟩
  · simp only [plV2, nwk_0]; rfl
  · exact hd 0 _ rfl 0 (.int .i64 1) rfl
  · exact hd 0 _ rfl 1 (.string ⟨#[97, 45, 98, 95, 50]⟩) rfl
  · have h := hd 0 _ rfl 2 (.complex .f64 (nw 2) (nw 3)) rfl; simp only [nwk_2, nwk_3] at h; exact h
  · exact hd 1 _ rfl 0 (.int .i64 3) rfl
  · exact hd 1 _ rfl 1 (.string ⟨#[]⟩) rfl
  · have h := hd 1 _ rfl 2 (.complex .f64 (nw 2) (nw 12)) rfl; simp only [nwk_12, nwk_2] at h; exact h
  · exact hd 2 _ rfl 0 (.int .i64 2) rfl
  · exact hd 2 _ rfl 1 (.string ⟨#[45, 51]⟩) rfl
  · have h := hd 2 _ rfl 2 (.complex .f64 (nw 4) (nw 2)) rfl; simp only [nwk_2, nwk_4] at h; exact h
  · exact hd 3 _ rfl 0 (.int .i64 1) rfl
  · exact hd 3 _ rfl 1 (.string ⟨#[120]⟩) rfl
  · have h := hd 3 _ rfl 2 (.complex .f64 (nw 4) (nw 4)) rfl; simp only [nwk_4] at h; exact h
  · exact hd 4 _ rfl 0 (.int .i64 3) rfl
  · exact hd 4 _ rfl 1 (.string ⟨#[]⟩) rfl
  · have h := hd 4 _ rfl 2 (.complex .f64 (nw 4) (nw 5)) rfl; simp only [nwk_4, nwk_5] at h; exact h

theorem why_0 (W : World) : Calls Tryd.prog 9 #[.string ⟨#[120, 10, 32, 121, 33]⟩] W fun e w' => e = .returned (.tuple #[.complex .f64 4611686018427387904 4613937818241073152, .int .i64 2]) ∧ More W w' := by
  have h := why_k (x := ⟨[], 2, 3, 2⟩) [120, 10, 32, 121, 33] (by kernel_rfl) (by decide) W
  simp only [plV2, nwk_2, nwk_3] at h
  exact h

theorem why_1 (W : World) : Calls Tryd.prog 9 #[.string ⟨#[49, 46, 50, 46, 51]⟩] W fun e w' => e = .returned (.tuple #[.complex .f64 4607182418800017408 4607182418800017408, .int .i64 2]) ∧ More W w' := by
  have h := why_k (x := ⟨[], 1, 1, 2⟩) [49, 46, 50, 46, 51] (by kernel_rfl) (by decide) W
  simp only [plV2, nwk_1] at h
  exact h

theorem why_2 (W : World) : Calls Tryd.prog 9 #[.string ⟨#[97, 98, 32, 45]⟩] W fun e w' => e = .returned (.tuple #[.complex .f64 4607182418800017408 4616189618054758400, .int .i64 2]) ∧ More W w' := by
  have h := why_k (x := ⟨[], 1, 4, 2⟩) [97, 98, 32, 45] (by kernel_rfl) (by decide) W
  simp only [plV2, nwk_1, nwk_4] at h
  exact h

theorem why_3 (W : World) : Calls Tryd.prog 9 #[.string ⟨#[97, 98, 99, 100, 101, 102, 103, 104, 105, 106, 107, 108, 109, 110, 111, 112, 113, 114, 115, 116, 117]⟩] W fun e w' => e = .returned (.tuple #[.complex .f64 4607182418800017408 4607182418800017408, .int .i64 3]) ∧ More W w' := by
  have h := why_k (x := ⟨[], 1, 1, 3⟩) [97, 98, 99, 100, 101, 102, 103, 104, 105, 106, 107, 108, 109, 110, 111, 112, 113, 114, 115, 116, 117] (by kernel_rfl) (by decide) W
  simp only [plV2, nwk_1] at h
  exact h

theorem why_4 (W : World) : Calls Tryd.prog 9 #[.string ⟨#[49, 50, 51, 52, 53, 54, 55, 56, 57, 48, 49, 50, 51, 52, 53, 54, 55, 56, 57, 48, 49, 50, 51, 52]⟩] W fun e w' => e = .returned (.tuple #[.complex .f64 4607182418800017408 4607182418800017408, .int .i64 2]) ∧ More W w' := by
  have h := why_k (x := ⟨[], 1, 1, 2⟩) [49, 50, 51, 52, 53, 54, 55, 56, 57, 48, 49, 50, 51, 52, 53, 54, 55, 56, 57, 48, 49, 50, 51, 52] (by kernel_rfl) (by decide) W
  simp only [plV2, nwk_1] at h
  exact h

theorem why_long (l : List UInt8) (hl : l.length = 4001) (W : World) : Calls Tryd.prog 9 #[.string (bsOf l)] W fun e w' => e = .returned (.tuple #[.complex .f64 0 0, .int .i64 3]) ∧ More W w' := by
  have h := why_k (x := ⟨[], 0, 0, 3⟩) l (by unfold lexP; rw [if_pos (by omega)]) (by omega) W
  simp only [plV2, nwk_0] at h
  exact h

set_option maxHeartbeats 4000000 in
theorem known10_c  (W : World) :
    Calls Tryd.prog 8 #[] W fun e w' => e = .returned (.bool true) ∧ More W w' := by
  have e0 : ∀ w, (binOp .eql 32 (.agg #[.int .i64 1, .string ⟨#[97]⟩, .complex .f64 4607182418800017408 4607182418800017408]) (.agg #[.int .i64 1, .string ⟨#[97]⟩, .complex .f64 4607182418800017408 4607182418800017408])).run Tryd.prog w = .ok (.bool true) w := fun w => by kernel_rfl
  have e1 : ∀ w, (binOp .eql 32 (.agg #[.int .i64 2, .string ⟨#[49, 46, 53]⟩, .complex .f64 4607182418800017408 4613937818241073152]) (.agg #[.int .i64 2, .string ⟨#[49, 46, 53]⟩, .complex .f64 4607182418800017408 4613937818241073152])).run Tryd.prog w = .ok (.bool true) w := fun w => by kernel_rfl
  have e2 : ∀ w, (binOp .eql 32 (.agg #[.int .i64 3, .string ⟨#[]⟩, .complex .f64 4607182418800017408 4618441417868443648]) (.agg #[.int .i64 3, .string ⟨#[]⟩, .complex .f64 4607182418800017408 4618441417868443648])).run Tryd.prog w = .ok (.bool true) w := fun w => by kernel_rfl
  have z0 : ∀ w, (binOp .eql 23 (.complex .f64 0 0) (.complex .f64 0 0)).run Tryd.prog w = .ok (.bool true) w := fun w => by kernel_rfl
  go_enter Tryd.func8, Tryd.ntmps8
  go_wp2_with (first | (go_at_call 7; (with_reducible refine Calls.mono (ktok_0 _) ?_); rintro e w' ⟨b, o, c, rfl, ⟨r, rfl⟩, hb, c0, c1, c2, c3, c4, c5, c6, c7, c8⟩))
  go_returns
  exact ⟨rfl, (by repeat (first | exact More.refl _ | refine More.alloc ?_ _ | refine More.more ?_ _ | refine More.drew ?_ | refine More.drewN ?_ _))⟩

theorem info_u8 : (Tryd.prog.info? 5).map (fun i => (i.zero, i.size, i.bytes)) = some (some (.int .u8 0), 1, 1) := by kernel_rfl

set_option maxHeartbeats 16000000 in
set_option maxRecDepth 100000 in
theorem lexKnown_walk (w : World) : Calls Tryd.prog 3 #[] w fun e w' => e = .returned (.bool true) ∧ More w w' := by
  have g0 : ∀ w, (binOp .eql 23 (.complex .f64 4611686018427387904 4613937818241073152) (.complex .f64 4611686018427387904 4613937818241073152)).run Tryd.prog w = .ok (.bool true) w := fun w => by kernel_rfl
  have g1 : ∀ w, (binOp .eql 23 (.complex .f64 4611686018427387904 4622945017495814144) (.complex .f64 4611686018427387904 4622945017495814144)).run Tryd.prog w = .ok (.bool true) w := fun w => by kernel_rfl
  have g2 : ∀ w, (binOp .eql 23 (.complex .f64 4616189618054758400 4611686018427387904) (.complex .f64 4616189618054758400 4611686018427387904)).run Tryd.prog w = .ok (.bool true) w := fun w => by kernel_rfl
  have g3 : ∀ w, (binOp .eql 23 (.complex .f64 4616189618054758400 4616189618054758400) (.complex .f64 4616189618054758400 4616189618054758400)).run Tryd.prog w = .ok (.bool true) w := fun w => by kernel_rfl
  have g4 : ∀ w, (binOp .eql 23 (.complex .f64 4616189618054758400 4617315517961601024) (.complex .f64 4616189618054758400 4617315517961601024)).run Tryd.prog w = .ok (.bool true) w := fun w => by kernel_rfl
  have g6 : ∀ w, (binOp .eql 23 (.complex .f64 4607182418800017408 4607182418800017408) (.complex .f64 4607182418800017408 4607182418800017408)).run Tryd.prog w = .ok (.bool true) w := fun w => by kernel_rfl
  have g7 : ∀ w, (binOp .eql 23 (.complex .f64 4607182418800017408 4616189618054758400) (.complex .f64 4607182418800017408 4616189618054758400)).run Tryd.prog w = .ok (.bool true) w := fun w => by kernel_rfl
  have g10 : ∀ w, (binOp .eql 23 (.complex .f64 0 0) (.complex .f64 0 0)).run Tryd.prog w = .ok (.bool true) w := fun w => by kernel_rfl
  have s0 : ∀ w, (binOp .eql 9 (.string ⟨#[97, 45, 98, 95, 50]⟩) (.string ⟨#[97, 45, 98, 95, 50]⟩)).run Tryd.prog w = .ok (.bool true) w := fun w => by kernel_rfl
  have s2 : ∀ w, (binOp .eql 9 (.string ⟨#[45, 51]⟩) (.string ⟨#[45, 51]⟩)).run Tryd.prog w = .ok (.bool true) w := fun w => by kernel_rfl
  have s3 : ∀ w, (binOp .eql 9 (.string ⟨#[120]⟩) (.string ⟨#[120]⟩)).run Tryd.prog w = .ok (.bool true) w := fun w => by kernel_rfl
  obtain ⟨i0, hi, hz0, hz1, hz2⟩ := info_parts info_u8
  go_enter Tryd.func3, Tryd.ntmps3
  go_wp2_with (first | (go_at_call 7; (with_reducible refine Calls.mono (ktok_1 _) ?_); rintro e w' ⟨b, o, c, rfl, hM, hb, c0, c1, c2, c3, c4, c5, c6, c7, c8, c9, c10, c11, c12, c13, c14⟩))
  refine at_calls (w := w) (R := fun W => b < W.heap.size ∧ W.cell? ⟨b, o, none⟩ = some (.int .i64 1) ∧ W.cell? ⟨b, o + 1, none⟩ = some (.string ⟨#[97, 45, 98, 95, 50]⟩) ∧ W.cell? ⟨b, o + 2, none⟩ = some (.complex .f64 4611686018427387904 4613937818241073152) ∧ W.cell? ⟨b, o + 3, none⟩ = some (.int .i64 3) ∧ W.cell? ⟨b, o + 4, none⟩ = some (.string ⟨#[]⟩) ∧ W.cell? ⟨b, o + 5, none⟩ = some (.complex .f64 4611686018427387904 4622945017495814144) ∧ W.cell? ⟨b, o + 6, none⟩ = some (.int .i64 2) ∧ W.cell? ⟨b, o + 7, none⟩ = some (.string ⟨#[45, 51]⟩) ∧ W.cell? ⟨b, o + 8, none⟩ = some (.complex .f64 4616189618054758400 4611686018427387904) ∧ W.cell? ⟨b, o + 9, none⟩ = some (.int .i64 1) ∧ W.cell? ⟨b, o + 10, none⟩ = some (.string ⟨#[120]⟩) ∧ W.cell? ⟨b, o + 11, none⟩ = some (.complex .f64 4616189618054758400 4616189618054758400) ∧ W.cell? ⟨b, o + 12, none⟩ = some (.int .i64 3) ∧ W.cell? ⟨b, o + 13, none⟩ = some (.string ⟨#[]⟩) ∧ W.cell? ⟨b, o + 14, none⟩ = some (.complex .f64 4616189618054758400 4617315517961601024)) (hM.trans (by repeat (first | exact More.refl _ | refine More.alloc ?_ _ | refine More.more ?_ _ | refine More.drew ?_ | refine More.drewN ?_ _))) ⟨hb, c0, c1, c2, c3, c4, c5, c6, c7, c8, c9, c10, c11, c12, c13, c14⟩ ?_
  clear hb c0 c1 c2 c3 c4 c5 c6 c7 c8 c9 c10 c11 c12 c13 c14 hM
  rintro W1 hM ⟨hb, c0, c1, c2, c3, c4, c5, c6, c7, c8, c9, c10, c11, c12, c13, c14⟩
  have HM := Lib.hid hM
  clear hM
  go_wp2_with (first | (at_make; refine wpList_make_row _ rfl _ _ 29 rfl 5 i0 (.int .u8 0) (by kernel_rfl) hi hz0 hz1 rfl .i64 .i64 4001 rfl rfl (by rw [hz2]; decide) (by decide) ?_) | (first | (go_at_call 8; (with_reducible refine (known10_c _).mono ?_); rintro e w' ⟨rfl, r, rfl⟩)))
  go_loopw [38] (fun x wr => ∃ (k : Nat) (f : Nat → UInt8), k ≤ 4001 ∧ x = .int .i64 k ∧ wr.rowIs (W1.heap.size + r.len) 5 4001 (fun i => .int .u8 ((f i).toNat : Int)) ∧ Below W1.heap.size W1 wr) (fun x _ => 4001 - (intOf x).toNat)
  case atStart =>
    have h := World.rowIs_made (more W1 r) (.int .u8 0) 4001 5
    rw [size_more] at h
    exact ⟨0, fun _ => 0, by omega, rfl, h, (More.more (More.refl W1) r).below.alloc (by simp) _⟩
  case round =>
    obtain ⟨k, f, hk, rfl, hR, hB⟩ := hrel
    have HR := Lib.hid hR
    have HB := Lib.hid hB
    clear hB
    by_cases hkl : k < 4001
    · have f1 := hR.cell hkl
      have f2 := hR.frozen k
      have f3 := hR.lt
      clear hR
      go_wp2_with (first | (go_at_call 8; (with_reducible refine (known10_c _).mono ?_); rintro e w' ⟨rfl, r, rfl⟩))
      go_roundw
      case rel => exact ⟨k + 1, fun i => if i = k then 32 else f i, by omega, rfl, (HR.out.set k (.int .u8 32)).congr (fun i _ => by dsimp only; split <;> rfl), HB.out.setCell (by simp only []; omega) _⟩
      case measure => simp [intOf] <;> omega
    · obtain rfl : k = 4001 := by omega
      obtain ⟨L, hL, hLf⟩ : ∃ L : List UInt8, L.length = 4001 ∧ ∀ j (hj : j < L.length), L[j] = f j := ⟨(List.range 4001).map f, by rw [List.length_map, List.length_range], fun j hj => by rw [List.getElem_map, List.getElem_range]⟩
      have hlt := hR.lt
      have hconv : ∀ r', (convert 29 9 (.slice (some ⟨W1.heap.size + r.len, 0, none⟩) 4001 4001)).run Tryd.prog (more wr r') = .ok (.string (bsOf L)) (more wr r') := by
        intro r'
        have h := run_convert_bytes_back (P := Tryd.prog) (more wr r') 29 9 5 ⟨W1.heap.size + r.len, 0, none⟩ 4001 L (by kernel_rfl) (by kernel_rfl) (by kernel_rfl) (fun j hj => by
          rw [Addr.add_lit, Nat.zero_add, cell_more _ _ _ _ hlt, hR.cell (by omega), hLf j hj])
        rw [hL] at h
        exact h
      clear hR
      have d0 := (HB.out.cell (p := ⟨b, o, none⟩) hb).trans c0
      have d1 := (HB.out.cell (p := ⟨b, o + 1, none⟩) hb).trans c1
      have d2 := (HB.out.cell (p := ⟨b, o + 2, none⟩) hb).trans c2
      have d3 := (HB.out.cell (p := ⟨b, o + 3, none⟩) hb).trans c3
      have d4 := (HB.out.cell (p := ⟨b, o + 4, none⟩) hb).trans c4
      have d5 := (HB.out.cell (p := ⟨b, o + 5, none⟩) hb).trans c5
      have d6 := (HB.out.cell (p := ⟨b, o + 6, none⟩) hb).trans c6
      have d7 := (HB.out.cell (p := ⟨b, o + 7, none⟩) hb).trans c7
      have d8 := (HB.out.cell (p := ⟨b, o + 8, none⟩) hb).trans c8
      have d9 := (HB.out.cell (p := ⟨b, o + 9, none⟩) hb).trans c9
      have d10 := (HB.out.cell (p := ⟨b, o + 10, none⟩) hb).trans c10
      have d11 := (HB.out.cell (p := ⟨b, o + 11, none⟩) hb).trans c11
      have d12 := (HB.out.cell (p := ⟨b, o + 12, none⟩) hb).trans c12
      have d13 := (HB.out.cell (p := ⟨b, o + 13, none⟩) hb).trans c13
      have d14 := (HB.out.cell (p := ⟨b, o + 14, none⟩) hb).trans c14
      have hb2 : b < wr.heap.size := by have := HB.out.size; omega
      clear c0 c1 c2 c3 c4 c5 c6 c7 c8 c9 c10 c11 c12 c13 c14 hb
      go_wp2_with (first | (go_at_call 9; (with_reducible refine Calls.mono (why_0 _) ?_); rintro e w' ⟨rfl, r0, rfl⟩))
      go_wp2_with (first | (go_at_call 9; (with_reducible refine Calls.mono (why_1 _) ?_); rintro e w' ⟨rfl, r1, rfl⟩))
      go_wp2_with (first | (go_at_call 9; (with_reducible refine Calls.mono (why_2 _) ?_); rintro e w' ⟨rfl, r2, rfl⟩))
      go_wp2_with (first | (go_at_call 9; (with_reducible refine Calls.mono (why_3 _) ?_); rintro e w' ⟨rfl, r3, rfl⟩))
      go_wp2_with (first | (go_at_call 9; (with_reducible refine Calls.mono (why_long L hL _) ?_); rintro e w' ⟨rfl, r5, rfl⟩))
      go_wp2_with (first | (go_at_call 9; (with_reducible refine Calls.mono (why_4 _) ?_); rintro e w' ⟨rfl, r4, rfl⟩))
      all_goals (try simp only [List.append_eq, List.cons_append, List.nil_append])
      go_wp2_with fail
      go_returns
      exact ⟨rfl, (HM.out.trans (more_of_below HB.out)).trans (by repeat (first | exact More.refl _ | refine More.alloc ?_ _ | refine More.more ?_ _ | refine More.drew ?_ | refine More.drewN ?_ _))⟩

end Go.Proofs.YthhipepdkpoomaaDoor

