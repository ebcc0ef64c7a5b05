/-
  What is still to be read, and its place: the calls that turn it. Two blocks lie behind a world: the text, and a token.
-/
import Derived.Test.YthhipepdkpoomaaDoorLexFn
namespace Go.Proofs.YthhipepdkpoomaaDoor
set_option linter.unusedVariables false
open Go.ChangeShapes Go.WideShapes Go.ChangeAt Go.RowKit

@[reducible] def plV2 (L C : Nat) : Value := .complex .f64 (nw L) (nw C)
abbrev txt (r : List UInt8) (L C : Nat) : Obj := .cells #[.string (bsOf r), .complex .f64 (nw L) (nw C)] 51
theorem zn_nat (n : Nat) : zn (n : Int) false = false := by
  unfold zn
  by_cases h : (n : Int) = 0
  · rw [if_pos h]
  · rw [if_neg h]; exact decide_eq_false (by omega)
theorem place_add {P : Program} (L C n : Nat) (hL : L ≤ 10000) (hC : C ≤ 10000) (hn : n ≤ 10000) (T : TypeId) (w : World) :
    (binOp .add T (.complex .f64 (nw L) (nw C)) (.complex .f64 0 (nw n))).run P w = .ok (.complex .f64 (nw L) (nw (C + n))) w := by
  have h := cadd (P := P) (a := L) (b := C) (c := 0) (d := n) false false false false (by omega) (by omega) (by omega) (by omega) T w
  rw [zn_nat, zn_nat, Int.add_zero, ← lit_zero] at h
  simp only [nw_eq]
  exact h
theorem line_add {P : Program} (L : Nat) (hL : L ≤ 10000) (T : TypeId) (w : World) :
    (binOp .add T (.float .f64 (nw L)) (.float .f64 4607182418800017408)).run P w = .ok (.float .f64 (nw (L + 1))) w := by
  have h := fadd (P := P) (a := L) (c := 1) false false (by omega) (by omega) T w
  rw [zn_nat, ← lit_one] at h
  simp only [nw_eq]
  exact h

set_option maxHeartbeats 4000000 in
theorem pass_c (r : List UInt8) (L C n : Nat) (o2 : Obj) (s : Rest) (W : World) (hn : n ≤ r.length) (hr : r.length ≤ 4000) (hL : L ≤ 10000) (hC : C ≤ 10000) :
    Calls Tryd.prog 20 #[.pointer (some ⟨W.heap.size, 0, none⟩), .int .i64 n] (more ((W.alloc (txt r L C)).alloc o2) s) fun e w' => e = .returned (.string (bsOf (r.take n))) ∧ ∃ r1, w' = more ((W.alloc (txt (r.drop n) L (C + n))).alloc o2) (s.plus r1) := by
  have ht : (r.take n).length ≤ 4000 := by rw [List.length_take]; omega
  have hA := place_add (P := Tryd.prog) L C n hL hC (by omega)
  have hD : (r.drop n).take (r.length - n) = r.drop n := List.take_of_length_le (by simp)
  go_enter Tryd.func20, Tryd.ntmps20
  go_wp2_with (first | (go_at_call 29; (with_reducible refine (clone_c _ (by (try simp only [size_bs]); omega) _).mono ?_); rintro e w' ⟨rfl, r, rfl⟩))
  go_returns
  exact ⟨rfl, _, rfl⟩

set_option maxHeartbeats 4000000 in
theorem take_c (g : Nat) (p : UInt8 → Bool) (he : ∀ args w, (callFunc g args).run Tryd.prog w = .ok (.enter g args) w) (hg : ∀ (l : List UInt8) (k : Nat) (w : World), Calls Tryd.prog g #[.int .u8 (byteAt l k)] w fun e w' => e = .returned (.bool (p (l.getD k 0))) ∧ w = w')
    (r : List UInt8) (L C : Nat) (o2 : Obj) (s : Rest) (W : World) (hr : r.length ≤ 4000) (hL : L ≤ 10000) (hC : C ≤ 10000) :
    Calls Tryd.prog 14 #[.pointer (some ⟨W.heap.size, 0, none⟩), .func (.func g) #[] #[]] (more ((W.alloc (txt r L C)).alloc o2) s) fun e w' => e = .returned (.string (bsOf (r.takeWhile p))) ∧ ∃ r1, w' = more ((W.alloc (txt (r.dropWhile p) L (C + (r.takeWhile p).length))).alloc o2) (s.plus r1) := by
  go_enter Tryd.func14, Tryd.ntmps14
  go_wp2_with fail
  go_loop [5] (fun i => ∃ k : Nat, k ≤ r.length ∧ i = .int .i64 k ∧ (r.take k).all p = true) (fun i => r.length - (intOf i).toNat)
  case atStart => exact ⟨0, by omega, rfl, rfl⟩
  case round =>
    obtain ⟨k, hk, rfl, ha⟩ := hrel
    have HA := Lib.hid ha
    clear ha
    by_cases hkl : k < r.length
    · have hb := byteAt_bd r k
      cases hp : p (r.getD k 0)
      · have hs := take_stop HA.out (.inr ⟨hkl, hp⟩)
        have HS := Lib.hid hs
        have hg1 : ∀ w, Calls Tryd.prog g #[.int .u8 (byteAt r k)] w fun e w' => e = .returned (.bool false) ∧ w = w' := fun w => by
          have h := hg r k w
          rw [hp] at h
          exact h
        clear hs hp
        go_wp2_with (first | (go_at_fn g; (with_reducible refine Calls.mono (hg1 _) ?_); rintro e w' ⟨rfl, rfl⟩) | (go_at_call 20; (with_reducible refine Calls.mono (pass_c r L C k o2 _ W hk hr hL hC) ?_); rintro e w' ⟨rfl, r1, rfl⟩))
        go_returns
        obtain ⟨e1, e2⟩ := HS.out
        exact ⟨congrArg (fun x => Ending.returned (Value.string (bsOf x))) e1.symm, r1, by rw [e1, e2, List.length_take, Nat.min_eq_left hk]⟩
      · have HN := Lib.hid (take_more HA.out hkl hp)
        have hg1 : ∀ w, Calls Tryd.prog g #[.int .u8 (byteAt r k)] w fun e w' => e = .returned (.bool true) ∧ w = w' := fun w => by
          have h := hg r k w
          rw [hp] at h
          exact h
        clear hp
        go_wp2_with (first | (go_at_fn g; (with_reducible refine Calls.mono (hg1 _) ?_); rintro e w' ⟨rfl, rfl⟩))
        exact ⟨⟨k + 1, by omega, rfl, HN.out⟩, by simp [intOf]; omega⟩
    · have : k = r.length := by omega
      subst this
      have hs := take_stop HA.out (.inl rfl)
      have HS := Lib.hid hs
      have hz1 : r.take r.length = r := List.take_of_length_le (Nat.le_refl _)
      have hz2 : r.drop r.length = [] := List.drop_of_length_le (Nat.le_refl _)
      clear hs
      go_wp2_with (first | (go_at_call 20; (with_reducible refine Calls.mono (pass_c r L C r.length o2 _ W hk hr hL hC) ?_); rintro e w' ⟨rfl, r1, rfl⟩))
      go_returns
      obtain ⟨e1, e2⟩ := HS.out
      rw [hz1] at e1
      rw [hz2] at e2
      exact ⟨congrArg (fun x => Ending.returned (Value.string (bsOf x))) e1.symm, r1, by rw [e1, e2]⟩

theorem ended_c (r : List UInt8) (L C : Nat) (o2 : Obj) (s : Rest) (W : World) (hr : r.length ≤ 4000) :
    Calls Tryd.prog 16 #[.pointer (some ⟨W.heap.size, 0, none⟩)] (more ((W.alloc (txt r L C)).alloc o2) s) fun e w' => e = .returned (.bool (decide (r = []) || r.head? == some 10)) ∧ w' = more ((W.alloc (txt r L C)).alloc o2) s := by
  cases r with
  | nil =>
    go_enter Tryd.func16, Tryd.ntmps16
    go_wp2_with fail
    go_returns
    exact ⟨rfl, rfl⟩
  | cons c q =>
    have h10 : (byteAt (c :: q) 0 == 10) = (decide (c :: q = []) || (c :: q).head? == some 10) := by
      have h := eq_at (c :: q) 0 10 (by omega)
      have e : decide (c :: q = []) = false := by simp
      rw [e, Bool.false_or]
      rw [Bool.eq_iff_iff] at h ⊢
      simp only [decide_eq_true_eq, beq_iff_eq] at h ⊢
      rw [show ((10 : Nat) : Int) = 10 from rfl] at h
      rw [h]
      simp
    go_enter Tryd.func16, Tryd.ntmps16
    go_wp2_with fail
    go_returns
    exact ⟨rfl, rfl⟩

/-- A call of take with the function value g: passes over what p takes. -/
abbrev Takes (g : Nat) (p : UInt8 → Bool) : Prop := ∀ (r : List UInt8) (L C : Nat) (o2 : Obj) (s : Rest) (W : World) (_ : r.length ≤ 4000) (_ : L ≤ 10000) (_ : C ≤ 10000),
    Calls Tryd.prog 14 #[.pointer (some ⟨W.heap.size, 0, none⟩), .func (.func g) #[] #[]] (more ((W.alloc (txt r L C)).alloc o2) s) fun e w' => e = .returned (.string (bsOf (r.takeWhile p))) ∧ ∃ r1, w' = more ((W.alloc (txt (r.dropWhile p) L (C + (r.takeWhile p).length))).alloc o2) (s.plus r1)
theorem take_bl : Takes 15 isBl := take_c _ isBl (enters_of Tryd.func15 (by kernel_rfl) rfl) (fun l k w => by have h := blank_c (byteAt l k) w; rw [isBlz_at] at h; exact h)
theorem take_w : Takes 19 isW := take_c _ isW (enters_of Tryd.func19 (by kernel_rfl) rfl) (fun l k w => by have h := inWord_c (byteAt l k) w; rw [isWz_at] at h; exact h)
theorem take_nm : Takes 21 isNm := take_c _ isNm (enters_of Tryd.func21 (by kernel_rfl) rfl) (fun l k w => by have h := inNumber_c (byteAt l k) w; rw [isNz_at] at h; exact h)
theorem take_rm : Takes 23 isRm := take_c _ isRm (enters_of Tryd.func23 (by kernel_rfl) rfl) (fun l k w => by have h := inRemark_c (byteAt l k) w; rw [isRz_at] at h; exact h)

set_option maxHeartbeats 4000000 in
theorem unended_s {base : Nat} {s : Rest} {v : Value} {acc : List Tk} (W : World) (hb : W.heap.size = base) (hl : acc.length ≤ 100000) (h : OwnS base s 32 3 v acc.length (flatC tk3 acc)) :
    Calls Tryd.prog 24 #[v] (more W s) fun e w' => e = .returned (.bool (unended acc)) ∧ more W s = w' := by
  obtain ⟨ao, c, rfl, hc⟩ := grow_form (fun _ => by rw [tk3_len]; decide) (GRow.of_owns tk3_len (by decide) (h W hb))
  generalize more W s = w at *
  clear h
  cases hk : acc.length with
  | zero =>
    have : acc = [] := List.eq_nil_of_length_eq_zero hk
    subst this
    go_enter Tryd.func24, Tryd.ntmps24
    go_wp2_with fail
    go_ret
    exact ⟨rfl, rfl⟩
  | succ N =>
    obtain ⟨b, o, rfl, hbw, hcell⟩ := hc (by omega)
    obtain ⟨t, ht⟩ : ∃ t, acc[N]? = some t := ⟨acc[N], List.getElem?_eq_getElem (by omega)⟩
    have h0 := hcell N t ht 0 _ rfl
    rw [Nat.add_zero] at h0
    have hu : unended acc = (t.kind != 3) := by
      unfold unended
      rw [List.getLast?_eq_getElem?, hk, Nat.add_sub_cancel, ht]
    have hi : ((t.kind : Int) != 3) = (t.kind != 3) := by
      rw [Bool.eq_iff_iff]
      simp only [bne_iff_ne, ne_eq]
      omega
    rw [hu]
    clear hu hcell hc
    go_enter Tryd.func24, Tryd.ntmps24
    go_wp2_with fail
    go_ret
    exact ⟨rfl, rfl⟩

theorem ended_nil (L C : Nat) (o2 : Obj) (s : Rest) (W : World) : Calls Tryd.prog 16 #[.pointer (some ⟨W.heap.size, 0, none⟩)] (more ((W.alloc (txt [] L C)).alloc o2) s) fun e w' => e = .returned (.bool true) ∧ more ((W.alloc (txt [] L C)).alloc o2) s = w' :=
  (ended_c [] L C o2 s W (by simp)).mono fun _ _ h => ⟨h.1, h.2.symm⟩
theorem ended_lf (q : List UInt8) (L C : Nat) (o2 : Obj) (s : Rest) (W : World) (hr : q.length < 4000) : Calls Tryd.prog 16 #[.pointer (some ⟨W.heap.size, 0, none⟩)] (more ((W.alloc (txt (10 :: q) L C)).alloc o2) s) fun e w' => e = .returned (.bool true) ∧ more ((W.alloc (txt (10 :: q) L C)).alloc o2) s = w' :=
  (ended_c (10 :: q) L C o2 s W (by simp only [List.length_cons]; omega)).mono fun _ _ h => ⟨h.1, h.2.symm⟩
theorem ended_no (c : UInt8) (q : List UInt8) (L C : Nat) (o2 : Obj) (s : Rest) (W : World) (hr : q.length < 4000) (hc : ¬ c = 10) : Calls Tryd.prog 16 #[.pointer (some ⟨W.heap.size, 0, none⟩)] (more ((W.alloc (txt (c :: q) L C)).alloc o2) s) fun e w' => e = .returned (.bool false) ∧ more ((W.alloc (txt (c :: q) L C)).alloc o2) s = w' := by
  refine (ended_c (c :: q) L C o2 s W (by simp only [List.length_cons]; omega)).mono fun _ _ h => ⟨?_, h.2.symm⟩
  rw [h.1]
  have e : (decide (c :: q = []) || (c :: q).head? == some 10) = false := by simp [hc]
  rw [e]
theorem pass_1 (c : UInt8) (q : List UInt8) (L C : Nat) (o2 : Obj) (s : Rest) (W : World) (hr : q.length < 4000) (hL : L ≤ 10000) (hC : C ≤ 10000) : Calls Tryd.prog 20 #[.pointer (some ⟨W.heap.size, 0, none⟩), .int .i64 1] (more ((W.alloc (txt (c :: q) L C)).alloc o2) s) fun e w' => e = .returned (.string (bsOf [c])) ∧ ∃ r1, w' = more ((W.alloc (txt q L (C + 1))).alloc o2) (s.plus r1) :=
  pass_c (c :: q) L C 1 o2 s W (by simp) (by simp only [List.length_cons]; omega) hL hC
theorem byte_at0 (c : UInt8) (q : List UInt8) (m : Nat) (hm : m < 256) : (byteAt (c :: q) 0 == (m : Int)) = (c == UInt8.ofNat m) := by
  have h := eq_at (c :: q) 0 m hm
  rw [Bool.eq_iff_iff] at h ⊢
  simp only [decide_eq_true_eq, beq_iff_eq] at h ⊢
  exact h

end Go.Proofs.YthhipepdkpoomaaDoor

