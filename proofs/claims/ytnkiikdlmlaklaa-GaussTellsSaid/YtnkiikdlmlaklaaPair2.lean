/-
  More of the plain saying of chapter 8: turns, beams; the numbers that are handed in; what is the document's.
-/
import Derived.Test.YtnkiikdlmlaklaaPair
import Derived.Test.YtnkiikdlmlaklaaBeam
namespace Go.Proofs.Ytnkiikdlmlaklaa
set_option linter.unusedVariables false
open Go.ChangeShapes Go.WideShapes Go.ChangeAt Go.RowKit

theorem tmod4 (k : Int) : (k.tmod 4 = 0 ∧ k % 4 = 0) ∨ (k.tmod 4 = 1 ∧ k % 4 = 1) ∨ (k.tmod 4 = 2 ∧ k % 4 = 2) ∨ (k.tmod 4 = 3 ∧ k % 4 = 3) ∨ (k.tmod 4 = -1 ∧ k % 4 = 3) ∨ (k.tmod 4 = -2 ∧ k % 4 = 2) ∨ (k.tmod 4 = -3 ∧ k % 4 = 1) := by
  have := Int.tmod_eq_emod (a := k) (b := 4)
  split at this <;> omega

set_option maxRecDepth 100000 in
set_option maxHeartbeats 4000000 in
theorem rturn_c (p : Pt) (k : Int) (h1 : -1048576 ≤ p.x) (h2 : p.x ≤ 1048576) (h3 : -1048576 ≤ p.y) (h4 : p.y ≤ 1048576) (W : World) :
    Calls Try.prog 23 #[ptV p, .int .i64 k] W fun e w' => e = .returned (ptV (turnI ⟨p.x, p.y⟩ k)) ∧ More W w' := by
  obtain ⟨x, y⟩ := p
  dsimp only at h1 h2 h3 h4 ⊢
  rcases tmod4 k with ⟨e, hk⟩ | ⟨e, hk⟩ | ⟨e, hk⟩ | ⟨e, hk⟩ | ⟨e, hk⟩ | ⟨e, hk⟩ | ⟨e, hk⟩
  all_goals
    first | rw [turnI_0 hk] | rw [turnI_1 hk] | rw [turnI_2 hk] | rw [turnI_3 hk]
    clear hk
    go_enter Try.func23, Try.ntmps23
    go_wp2_with fail
    repeat (any_goals (first | (refine wp_loop_rounds 5 ?_) | (rw [rounds_succ]; go_wp2_with fail)))
    all_goals
      go_returns
      exact ⟨rfl, (by repeat (first | exact More.refl _ | refine More.alloc ?_ _ | refine More.more ?_ _ | refine More.drew ?_ | refine More.drewN ?_ _))⟩

set_option maxHeartbeats 4000000 in
theorem rright_c (b : Bp) (W : World) :
    Calls Try.prog 25 #[bpV b] W fun e w' => e = .returned (.bool (isBp b)) ∧ More W w' := by
  obtain ⟨⟨x, y⟩, ⟨u, v⟩⟩ := b
  unfold isBp smallP zeroP
  dsimp only
  cases g1 : smallI x
  · skip
    go_enter Try.func25, Try.ntmps25
    go_wp2_with (first | (go_at_call 40; (with_reducible refine (rsmall_c _ _).mono ?_); rintro e w' ⟨rfl, rfl⟩))
    go_returns
    exact ⟨rfl, (by repeat (first | exact More.refl _ | refine More.alloc ?_ _ | refine More.more ?_ _ | refine More.drew ?_ | refine More.drewN ?_ _))⟩
  · cases g2 : smallI y
    · skip
      go_enter Try.func25, Try.ntmps25
      go_wp2_with (first | (go_at_call 40; (with_reducible refine (rsmall_c _ _).mono ?_); rintro e w' ⟨rfl, rfl⟩))
      go_returns
      exact ⟨rfl, (by repeat (first | exact More.refl _ | refine More.alloc ?_ _ | refine More.more ?_ _ | refine More.drew ?_ | refine More.drewN ?_ _))⟩
    · cases g3 : smallI u
      · skip
        go_enter Try.func25, Try.ntmps25
        go_wp2_with (first | (go_at_call 40; (with_reducible refine (rsmall_c _ _).mono ?_); rintro e w' ⟨rfl, rfl⟩))
        go_returns
        exact ⟨rfl, (by repeat (first | exact More.refl _ | refine More.alloc ?_ _ | refine More.more ?_ _ | refine More.drew ?_ | refine More.drewN ?_ _))⟩
      · cases g4 : smallI v
        · skip
          go_enter Try.func25, Try.ntmps25
          go_wp2_with (first | (go_at_call 40; (with_reducible refine (rsmall_c _ _).mono ?_); rintro e w' ⟨rfl, rfl⟩))
          go_returns
          exact ⟨rfl, (by repeat (first | exact More.refl _ | refine More.alloc ?_ _ | refine More.more ?_ _ | refine More.drew ?_ | refine More.drewN ?_ _))⟩
        · skip
          go_enter Try.func25, Try.ntmps25
          go_wp2_with (first | (go_at_call 40; (with_reducible refine (rsmall_c _ _).mono ?_); rintro e w' ⟨rfl, rfl⟩))
          all_goals
            go_returns
            refine ⟨?_, (by repeat (first | exact More.refl _ | refine More.alloc ?_ _ | refine More.more ?_ _ | refine More.drew ?_ | refine More.drewN ?_ _))⟩
            simp_all

set_option maxRecDepth 100000 in
set_option maxHeartbeats 4000000 in
theorem rcarry_c (b : Bp) (m : M4) (h1 : -1048576 ≤ b.n.x) (h2 : b.n.x ≤ 1048576) (h3 : -1048576 ≤ b.n.y) (h4 : b.n.y ≤ 1048576) (h5 : -1048576 ≤ b.d.x) (h6 : b.d.x ≤ 1048576) (h7 : -1048576 ≤ b.d.y) (h8 : b.d.y ≤ 1048576) (W : World) :
    Calls Try.prog 26 #[bpV b, m4V m] W fun e w' => e = .returned (.tuple #[bpV (carryP b m), .bool (carryB b m)]) ∧ More W w' := by
  obtain ⟨⟨x, y⟩, ⟨u, v⟩⟩ := b
  obtain ⟨a, b, c, d⟩ := m
  dsimp only at h1 h2 h3 h4 h5 h6 h7 h8 ⊢
  unfold carryP
  cases g2 : smallM ⟨a, b, c, d⟩
  · rw [show carryB ⟨⟨x, y⟩, ⟨u, v⟩⟩ ⟨a, b, c, d⟩ = false by unfold carryB; rw [g2]; cases isBp ⟨⟨x, y⟩, ⟨u, v⟩⟩ <;> rfl, if_neg (by decide)]
    unfold zeroBp
    unfold smallM at g2
    dsimp only at g2
    cases q1 : smallI a
    · clear g2
      go_enter Try.func26, Try.ntmps26
      go_wp2_with (first | (go_at_call 25; (with_reducible refine (rright_c _ _).mono ?_); rintro e w' ⟨rfl, r, rfl⟩) | (go_at_call 25; (with_reducible refine (rright_c ⟨⟨_, _⟩, ⟨_, _⟩⟩ _).mono ?_); rintro e w' ⟨rfl, r, rfl⟩) | (go_at_call 40; (with_reducible refine (rsmall_c _ _).mono ?_); rintro e w' ⟨rfl, rfl⟩))
      all_goals (try simp only [List.append_eq, List.cons_append, List.nil_append])
      go_wp2_with (first | (go_at_call 25; (with_reducible refine (rright_c _ _).mono ?_); rintro e w' ⟨rfl, r, rfl⟩) | (go_at_call 25; (with_reducible refine (rright_c ⟨⟨_, _⟩, ⟨_, _⟩⟩ _).mono ?_); rintro e w' ⟨rfl, r, rfl⟩) | (go_at_call 40; (with_reducible refine (rsmall_c _ _).mono ?_); rintro e w' ⟨rfl, rfl⟩))
      repeat (any_goals (first | (refine wp_loop_rounds 6 ?_) | (rw [rounds_succ]; go_wp2_with (first | (go_at_call 25; (with_reducible refine (rright_c _ _).mono ?_); rintro e w' ⟨rfl, r, rfl⟩) | (go_at_call 25; (with_reducible refine (rright_c ⟨⟨_, _⟩, ⟨_, _⟩⟩ _).mono ?_); rintro e w' ⟨rfl, r, rfl⟩) | (go_at_call 40; (with_reducible refine (rsmall_c _ _).mono ?_); rintro e w' ⟨rfl, rfl⟩)))))
      all_goals
        go_returns
        exact ⟨rfl, (by repeat (first | exact More.refl _ | refine More.alloc ?_ _ | refine More.more ?_ _ | refine More.drew ?_ | refine More.drewN ?_ _))⟩
    · cases q2 : smallI b
      · clear g2
        go_enter Try.func26, Try.ntmps26
        go_wp2_with (first | (go_at_call 25; (with_reducible refine (rright_c _ _).mono ?_); rintro e w' ⟨rfl, r, rfl⟩) | (go_at_call 25; (with_reducible refine (rright_c ⟨⟨_, _⟩, ⟨_, _⟩⟩ _).mono ?_); rintro e w' ⟨rfl, r, rfl⟩) | (go_at_call 40; (with_reducible refine (rsmall_c _ _).mono ?_); rintro e w' ⟨rfl, rfl⟩))
        all_goals (try simp only [List.append_eq, List.cons_append, List.nil_append])
        go_wp2_with (first | (go_at_call 25; (with_reducible refine (rright_c _ _).mono ?_); rintro e w' ⟨rfl, r, rfl⟩) | (go_at_call 25; (with_reducible refine (rright_c ⟨⟨_, _⟩, ⟨_, _⟩⟩ _).mono ?_); rintro e w' ⟨rfl, r, rfl⟩) | (go_at_call 40; (with_reducible refine (rsmall_c _ _).mono ?_); rintro e w' ⟨rfl, rfl⟩))
        repeat (any_goals (first | (refine wp_loop_rounds 6 ?_) | (rw [rounds_succ]; go_wp2_with (first | (go_at_call 25; (with_reducible refine (rright_c _ _).mono ?_); rintro e w' ⟨rfl, r, rfl⟩) | (go_at_call 25; (with_reducible refine (rright_c ⟨⟨_, _⟩, ⟨_, _⟩⟩ _).mono ?_); rintro e w' ⟨rfl, r, rfl⟩) | (go_at_call 40; (with_reducible refine (rsmall_c _ _).mono ?_); rintro e w' ⟨rfl, rfl⟩)))))
        all_goals
          go_returns
          exact ⟨rfl, (by repeat (first | exact More.refl _ | refine More.alloc ?_ _ | refine More.more ?_ _ | refine More.drew ?_ | refine More.drewN ?_ _))⟩
      · cases q3 : smallI c
        · clear g2
          go_enter Try.func26, Try.ntmps26
          go_wp2_with (first | (go_at_call 25; (with_reducible refine (rright_c _ _).mono ?_); rintro e w' ⟨rfl, r, rfl⟩) | (go_at_call 25; (with_reducible refine (rright_c ⟨⟨_, _⟩, ⟨_, _⟩⟩ _).mono ?_); rintro e w' ⟨rfl, r, rfl⟩) | (go_at_call 40; (with_reducible refine (rsmall_c _ _).mono ?_); rintro e w' ⟨rfl, rfl⟩))
          all_goals (try simp only [List.append_eq, List.cons_append, List.nil_append])
          go_wp2_with (first | (go_at_call 25; (with_reducible refine (rright_c _ _).mono ?_); rintro e w' ⟨rfl, r, rfl⟩) | (go_at_call 25; (with_reducible refine (rright_c ⟨⟨_, _⟩, ⟨_, _⟩⟩ _).mono ?_); rintro e w' ⟨rfl, r, rfl⟩) | (go_at_call 40; (with_reducible refine (rsmall_c _ _).mono ?_); rintro e w' ⟨rfl, rfl⟩))
          repeat (any_goals (first | (refine wp_loop_rounds 6 ?_) | (rw [rounds_succ]; go_wp2_with (first | (go_at_call 25; (with_reducible refine (rright_c _ _).mono ?_); rintro e w' ⟨rfl, r, rfl⟩) | (go_at_call 25; (with_reducible refine (rright_c ⟨⟨_, _⟩, ⟨_, _⟩⟩ _).mono ?_); rintro e w' ⟨rfl, r, rfl⟩) | (go_at_call 40; (with_reducible refine (rsmall_c _ _).mono ?_); rintro e w' ⟨rfl, rfl⟩)))))
          all_goals
            go_returns
            exact ⟨rfl, (by repeat (first | exact More.refl _ | refine More.alloc ?_ _ | refine More.more ?_ _ | refine More.drew ?_ | refine More.drewN ?_ _))⟩
        · have q4 : smallI d = false := by rw [q1, q2, q3] at g2; exact g2
          clear g2
          go_enter Try.func26, Try.ntmps26
          go_wp2_with (first | (go_at_call 25; (with_reducible refine (rright_c _ _).mono ?_); rintro e w' ⟨rfl, r, rfl⟩) | (go_at_call 25; (with_reducible refine (rright_c ⟨⟨_, _⟩, ⟨_, _⟩⟩ _).mono ?_); rintro e w' ⟨rfl, r, rfl⟩) | (go_at_call 40; (with_reducible refine (rsmall_c _ _).mono ?_); rintro e w' ⟨rfl, rfl⟩))
          all_goals (try simp only [List.append_eq, List.cons_append, List.nil_append])
          go_wp2_with (first | (go_at_call 25; (with_reducible refine (rright_c _ _).mono ?_); rintro e w' ⟨rfl, r, rfl⟩) | (go_at_call 25; (with_reducible refine (rright_c ⟨⟨_, _⟩, ⟨_, _⟩⟩ _).mono ?_); rintro e w' ⟨rfl, r, rfl⟩) | (go_at_call 40; (with_reducible refine (rsmall_c _ _).mono ?_); rintro e w' ⟨rfl, rfl⟩))
          repeat (any_goals (first | (refine wp_loop_rounds 6 ?_) | (rw [rounds_succ]; go_wp2_with (first | (go_at_call 25; (with_reducible refine (rright_c _ _).mono ?_); rintro e w' ⟨rfl, r, rfl⟩) | (go_at_call 25; (with_reducible refine (rright_c ⟨⟨_, _⟩, ⟨_, _⟩⟩ _).mono ?_); rintro e w' ⟨rfl, r, rfl⟩) | (go_at_call 40; (with_reducible refine (rsmall_c _ _).mono ?_); rintro e w' ⟨rfl, rfl⟩)))))
          all_goals
            go_returns
            exact ⟨rfl, (by repeat (first | exact More.refl _ | refine More.alloc ?_ _ | refine More.more ?_ _ | refine More.drew ?_ | refine More.drewN ?_ _))⟩
  · obtain ⟨⟨a1, a2⟩, ⟨b1, b2⟩, ⟨c1, c2⟩, d1, d2⟩ := smallM_bd g2
    obtain ⟨r1, r2⟩ := mul_in (m := a) (n := x) (by omega) (by omega)
    obtain ⟨r3, r4⟩ := mul_in (m := a) (n := y) (by omega) (by omega)
    obtain ⟨r5, r6⟩ := mul_in (m := b) (n := u) (by omega) (by omega)
    obtain ⟨r7, r8⟩ := mul_in (m := b) (n := v) (by omega) (by omega)
    obtain ⟨i1, i2⟩ := mul_in (m := c) (n := x) (by omega) (by omega)
    obtain ⟨i3, i4⟩ := mul_in (m := c) (n := y) (by omega) (by omega)
    obtain ⟨i5, i6⟩ := mul_in (m := d) (n := u) (by omega) (by omega)
    obtain ⟨i7, i8⟩ := mul_in (m := d) (n := v) (by omega) (by omega)
    have q1 : smallI a = true := by unfold smallI; simp [a1, a2]
    have q2 : smallI b = true := by unfold smallI; simp [b1, b2]
    have q3 : smallI c = true := by unfold smallI; simp [c1, c2]
    have q4 : smallI d = true := by unfold smallI; simp [d1, d2]
    have g4 : carryB ⟨⟨x, y⟩, ⟨u, v⟩⟩ ⟨a, b, c, d⟩ = (isBp ⟨⟨x, y⟩, ⟨u, v⟩⟩ && isBp ⟨⟨a * x + b * u, a * y + b * v⟩, ⟨c * x + d * u, c * y + d * v⟩⟩) := by
      unfold carryB carried mixP; rw [g2, Bool.true_and]
    rw [g4]
    clear g2 g4
    cases g1 : isBp ⟨⟨x, y⟩, ⟨u, v⟩⟩
    · rw [Bool.false_and, if_neg (by decide)]
      unfold zeroBp
      go_enter Try.func26, Try.ntmps26
      go_wp2_with (first | (go_at_call 25; (with_reducible refine (rright_c _ _).mono ?_); rintro e w' ⟨rfl, r, rfl⟩) | (go_at_call 25; (with_reducible refine (rright_c ⟨⟨_, _⟩, ⟨_, _⟩⟩ _).mono ?_); rintro e w' ⟨rfl, r, rfl⟩) | (go_at_call 40; (with_reducible refine (rsmall_c _ _).mono ?_); rintro e w' ⟨rfl, rfl⟩))
      all_goals (try simp only [List.append_eq, List.cons_append, List.nil_append])
      go_wp2_with (first | (go_at_call 25; (with_reducible refine (rright_c _ _).mono ?_); rintro e w' ⟨rfl, r, rfl⟩) | (go_at_call 25; (with_reducible refine (rright_c ⟨⟨_, _⟩, ⟨_, _⟩⟩ _).mono ?_); rintro e w' ⟨rfl, r, rfl⟩) | (go_at_call 40; (with_reducible refine (rsmall_c _ _).mono ?_); rintro e w' ⟨rfl, rfl⟩))
      repeat (any_goals (first | (refine wp_loop_rounds 6 ?_) | (rw [rounds_succ]; go_wp2_with (first | (go_at_call 25; (with_reducible refine (rright_c _ _).mono ?_); rintro e w' ⟨rfl, r, rfl⟩) | (go_at_call 25; (with_reducible refine (rright_c ⟨⟨_, _⟩, ⟨_, _⟩⟩ _).mono ?_); rintro e w' ⟨rfl, r, rfl⟩) | (go_at_call 40; (with_reducible refine (rsmall_c _ _).mono ?_); rintro e w' ⟨rfl, rfl⟩)))))
      all_goals
        go_returns
        exact ⟨rfl, (by repeat (first | exact More.refl _ | refine More.alloc ?_ _ | refine More.more ?_ _ | refine More.drew ?_ | refine More.drewN ?_ _))⟩
    · rw [Bool.true_and]
      cases g3 : isBp ⟨⟨a * x + b * u, a * y + b * v⟩, ⟨c * x + d * u, c * y + d * v⟩⟩
      · rw [if_neg (by decide)]
        unfold zeroBp
        go_enter Try.func26, Try.ntmps26
        go_wp2_with (first | (go_at_call 25; (with_reducible refine (rright_c _ _).mono ?_); rintro e w' ⟨rfl, r, rfl⟩) | (go_at_call 25; (with_reducible refine (rright_c ⟨⟨_, _⟩, ⟨_, _⟩⟩ _).mono ?_); rintro e w' ⟨rfl, r, rfl⟩) | (go_at_call 40; (with_reducible refine (rsmall_c _ _).mono ?_); rintro e w' ⟨rfl, rfl⟩))
        all_goals (try simp only [List.append_eq, List.cons_append, List.nil_append])
        go_wp2_with (first | (go_at_call 25; (with_reducible refine (rright_c _ _).mono ?_); rintro e w' ⟨rfl, r, rfl⟩) | (go_at_call 25; (with_reducible refine (rright_c ⟨⟨_, _⟩, ⟨_, _⟩⟩ _).mono ?_); rintro e w' ⟨rfl, r, rfl⟩) | (go_at_call 40; (with_reducible refine (rsmall_c _ _).mono ?_); rintro e w' ⟨rfl, rfl⟩))
        repeat (any_goals (first | (refine wp_loop_rounds 6 ?_) | (rw [rounds_succ]; go_wp2_with (first | (go_at_call 25; (with_reducible refine (rright_c _ _).mono ?_); rintro e w' ⟨rfl, r, rfl⟩) | (go_at_call 25; (with_reducible refine (rright_c ⟨⟨_, _⟩, ⟨_, _⟩⟩ _).mono ?_); rintro e w' ⟨rfl, r, rfl⟩) | (go_at_call 40; (with_reducible refine (rsmall_c _ _).mono ?_); rintro e w' ⟨rfl, rfl⟩)))))
        all_goals
          go_returns
          exact ⟨rfl, (by repeat (first | exact More.refl _ | refine More.alloc ?_ _ | refine More.more ?_ _ | refine More.drew ?_ | refine More.drewN ?_ _))⟩
      · rw [if_pos rfl]
        unfold carried mixP
        dsimp only
        go_enter Try.func26, Try.ntmps26
        go_wp2_with (first | (go_at_call 25; (with_reducible refine (rright_c _ _).mono ?_); rintro e w' ⟨rfl, r, rfl⟩) | (go_at_call 25; (with_reducible refine (rright_c ⟨⟨_, _⟩, ⟨_, _⟩⟩ _).mono ?_); rintro e w' ⟨rfl, r, rfl⟩) | (go_at_call 40; (with_reducible refine (rsmall_c _ _).mono ?_); rintro e w' ⟨rfl, rfl⟩))
        all_goals (try simp only [List.append_eq, List.cons_append, List.nil_append])
        go_wp2_with (first | (go_at_call 25; (with_reducible refine (rright_c _ _).mono ?_); rintro e w' ⟨rfl, r, rfl⟩) | (go_at_call 25; (with_reducible refine (rright_c ⟨⟨_, _⟩, ⟨_, _⟩⟩ _).mono ?_); rintro e w' ⟨rfl, r, rfl⟩) | (go_at_call 40; (with_reducible refine (rsmall_c _ _).mono ?_); rintro e w' ⟨rfl, rfl⟩))
        repeat (any_goals (first | (refine wp_loop_rounds 6 ?_) | (rw [rounds_succ]; go_wp2_with (first | (go_at_call 25; (with_reducible refine (rright_c _ _).mono ?_); rintro e w' ⟨rfl, r, rfl⟩) | (go_at_call 25; (with_reducible refine (rright_c ⟨⟨_, _⟩, ⟨_, _⟩⟩ _).mono ?_); rintro e w' ⟨rfl, r, rfl⟩) | (go_at_call 40; (with_reducible refine (rsmall_c _ _).mono ?_); rintro e w' ⟨rfl, rfl⟩)))))
        all_goals
          go_returns
          exact ⟨rfl, (by repeat (first | exact More.refl _ | refine More.alloc ?_ _ | refine More.more ?_ _ | refine More.drew ?_ | refine More.drewN ?_ _))⟩

end Go.Proofs.Ytnkiikdlmlaklaa

