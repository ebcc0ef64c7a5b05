/-
  Regions that draw their order, with one block laid in their midst and stores at their end: the block may be laid at any time; one walk in the text's order serves every order.
-/
import Derived.Test.YthhipepdkpoomaaDoorReg2
namespace Go.Proofs.YthhipepdkpoomaaDoor
set_option linter.unusedVariables false
open Go.RowKit

/-! What a call answers is one value: the machine goes one way. -/

/-- A caller that comes to an end as soon as it goes on. -/
def deadEnd : Frame := { fn := 0, tmps := #[], todo := [.beginRound, .code (.cond (.const (.int .i64 0)) .skip .skip)], defers := [], mode := .run, kind := .normal }
theorem deadEnd_ends {P : Program} (v : Value) (w : World) : ∃ o w', step P (lone (deadEnd.finish v) [] w) = .ended o w' :=
  ⟨_, w, step_lone_ended (by simp only [stepG, stepG.exec, deadEnd, Frame.finish, Frame.eval]; rfl)⟩

theorem leaves_once {P : Program} {n : Nat} {fr fr' : Frame} {w w' : World} {v : Value} (h : fr.leaving P w (.returned v)) (hs : runN P n (lone fr [deadEnd] w) = .next (lone fr' [deadEnd] w')) : lone fr [deadEnd] w = lone fr' [deadEnd] w' := by
  cases n with
  | zero => simpa [runN] using hs
  | succ n =>
    simp only [runN, step_leave_returned h] at hs
    cases n with
    | zero =>
      simp only [runN, Stepped.next.injEq, lone, Machine.mk.injEq] at hs
      simp at hs
    | succ n =>
      obtain ⟨o, w'', ho⟩ := deadEnd_ends (P := P) v w
      simp only [runN, ho] at hs
      cases hs

theorem calls_one {P : Program} {f : FuncId} {args : Array Value} {w : World} {v v' : Value} {A B : World → Prop}
    (h : Calls P f args w fun e w' => e = .returned v ∧ A w') (k : Calls P f args w fun e w' => e = .returned v' ∧ B w') : v = v' := by
  obtain ⟨e, w1, fr1, ⟨rfl, -⟩, ⟨n, hn⟩, -, l1⟩ := h [deadEnd]
  obtain ⟨e, w2, fr2, ⟨rfl, -⟩, ⟨m, hm⟩, -, l2⟩ := k [deadEnd]
  have key : lone fr1 [deadEnd] w1 = lone fr2 [deadEnd] w2 := by
    rcases Nat.le_total n m with hle | hle
    · obtain ⟨d, rfl⟩ := Nat.exists_eq_add_of_le hle
      rw [runN_add, hn] at hm
      exact leaves_once l1 hm
    · obtain ⟨d, rfl⟩ := Nat.exists_eq_add_of_le hle
      rw [runN_add, hm] at hn
      exact (leaves_once l2 hn).symm
  simp only [lone, Machine.mk.injEq] at key
  obtain ⟨rfl, hg, -⟩ := key
  simp at hg
  subst hg
  obtain ⟨-, -, -, fn, hf, hr⟩ := l1
  obtain ⟨-, -, -, fn', hf', hr'⟩ := l2
  rw [hf] at hf'
  cases hf'
  rw [hr] at hr'
  cases hr'
  rfl

section
variable {P : Program} {ops : Array Oper} {C : World → Prop}

theorem quiet_one {C' : World → Prop} {o : Oper} {a : Act} {w : World} {v v' : Value} (h : o.quietAt P a C w v) (k : o.quietAt P a C' w v') : v = v' := by
  unfold Oper.quietAt at h k
  generalize (execOp a.eval o).run P w = r at h k
  cases r with
  | ok n w' =>
    cases n <;> simp only [Oper.quietUpon] at h k
    case value u => exact h.2.symm.trans k.2
    case skip => exact h.2.trans k.2.symm
    case enter f args => exact calls_one h.2 k.2
  | halt x w' => simp only [Oper.quietUpon] at h

/-- Quiet in each of many classes that share worlds with the widest: quiet in the widest, by one value for all. -/
theorem qOp_all {X : Type} {D : X → World → Prop} (h0 : ∀ x, ∃ w, C w ∧ D x w) {i : Nat} {a : Act} {K0 : Act → Prop} {K : X → Act → Prop} (h : qOp P ops C i K0 a) (k : ∀ x, qOp P ops (D x) i (K x) a) :
    qOp P ops C i (fun a' => K0 a' ∧ ∀ x, K x a') a := by
  unfold qOp at *
  split
  · rename_i hn
    simp only [hn] at h k
    exact ⟨h, k⟩
  · rename_i o ho
    simp only [ho] at h k
    split
    · rename_i hw
      simp only [hw, if_true] at h k
      obtain ⟨v, h1, h2⟩ := h
      refine ⟨v, h1, h2, fun x => ?_⟩
      obtain ⟨v', k1, k2⟩ := k x
      obtain ⟨w, hc, hd⟩ := h0 x
      obtain rfl := quiet_one (h1 w hc) (k1 w hd)
      exact k2
    · rename_i hw
      simp only [hw] at h k
      exact ⟨h, fun x => k x⟩

/-- A slot that no operation of the head looks at or writes may be filled at any time. -/
theorem qOp_fill {i d : Nat} {o : Oper} (hi : ops[i]? = some o) (hd : d ∉ o.looksAt ops) (hd2 : o.dst ≠ some d) (hsel : ∀ cs b, o.op ≠ .select cs b) {K : Act → Prop} {a : Act} (u : Value) (h : qOp P ops C i K a) :
    qOp P ops C i (fun a' => ∃ b, a' = b.put (some d) u ∧ K b) (a.put (some d) u) := by
  have hl : ∀ e, some d = some e → e ∉ o.looksAt ops := fun e he => by cases he; exact hd
  have hc : ∀ e, (some d : Option Tmp) = some e → o.dst ≠ some e := fun e he => by cases he; exact hd2
  unfold qOp at *
  simp only [hi] at *
  rw [wanted_put o a (some d) u hl]
  split
  · rename_i hw
    simp only [hw, if_true] at h
    obtain ⟨v, h1, h2⟩ := h
    refine ⟨v, fun w hw' => ?_, a.put o.dst v, ?_, h2⟩
    · have := h1 w hw'
      unfold Oper.quietAt at *
      rwa [execOp_put o hsel a (some d) u hl]
    · exact Act.put_comm a u v hc
  · rename_i hw
    simp only [hw] at h
    exact ⟨_, Act.put_comm a u undef hc, h⟩
/-- A head's walk, the slot filled from the start. -/
theorem headQ_fill {n d : Nat} {L : Array Bool → Act → Prop} (hsel : ∀ (j : Nat) (o : Oper) cs b, ops[j]? = some o → o.op ≠ .select cs b) (u : Value) :
    ∀ (f : Nat) (m : Array Bool) (a : Act), (∀ j o, ops[j]? = some o → j < n → m.getD j true = false → d ∉ o.looksAt ops ∧ o.dst ≠ some d) → headQ P .any ops C n L f m a →
      headQ P .any ops C n (fun m' a' => ∃ b, a' = b.put (some d) u ∧ L m' b) f m (a.put (some d) u)
  | 0, m, a, _, h => ⟨a, rfl, h⟩
  | f + 1, m, a, hd, h => by
    refine ⟨h.1, fun i hi => ⟨(h.2 i hi).1, ?_⟩⟩
    obtain ⟨hun, o, ho, -⟩ := mem_ready.1 hi
    obtain ⟨h1, h2⟩ := hd i o ho (h.2 i hi).1 hun
    refine qOp_mono (fun a' ⟨b, hb, hK⟩ => ?_) (qOp_fill ho h1 h2 (fun cs b => hsel i o cs b ho) u (h.2 i hi).2)
    rw [hb]
    refine headQ_fill hsel u f _ b (fun j o' ho' hj hun' => hd j o' ho' hj ?_) hK
    by_cases hij : i = j
    · subst hij; exact hun
    · rwa [getD_set_ne true hij] at hun'

/-- Heads in each of many classes are one head. -/
theorem headQ_all {X : Type} {D : X → World → Prop} (h0 : ∀ x, ∃ w, C w ∧ D x w) {n : Nat} {L0 : Array Bool → Act → Prop} {L : X → Array Bool → Act → Prop} {f : Nat} {m : Array Bool} {a : Act}
    (h : headQ P .any ops C n L0 (f + 1) m a) (k : ∀ x, headQ P .any ops (D x) n (L x) (f + 1) m a) : ∀ i ∈ Region.ready .any ops m, i < n ∧
      qOp P ops C i (fun a' => headQ P .any ops C n L0 f (m.setIfInBounds i true) a' ∧ ∀ x, headQ P .any ops (D x) n (L x) f (m.setIfInBounds i true) a') a :=
  fun i hi => ⟨(h.2 i hi).1, qOp_all h0 (h.2 i hi).2 fun x => ((k x).2 i hi).2⟩
end

/-! The check of such a region: by numbers, one look a pair. n: where the tail begins; p: the place of the block that is laid. -/

def rowOkP (ops : Array Oper) (o : Oper) (b p : Nat) : Nat → Nat → List Oper → Bool
  | 0, _, _ => true
  | _ + 1, _, [] => true
  | n + 1, k, x :: r => (decide (k = p) || (Nat.testBit b k || x.apart ops o)) && CheckFast.force (k + 1) fun k' => rowOkP ops o b p n k' r
def fullB (b j : Nat) : Bool := b % 2 ^ j == 2 ^ j - 1
def fillOk (ops : Array Oper) (o : Oper) (p d : Nat) : Nat → Nat → List Oper → Bool
  | 0, _, _ => true
  | _ + 1, _, [] => true
  | n + 1, k, x :: r => (decide (k = p) || (!(x.looksAt ops).contains d && x.dst != some d)) && CheckFast.force (k + 1) fun k' => fillOk ops o p d n k' r
def heapOk (ops : Array Oper) (all : List Oper) (n p d : Nat) : Nat → List Oper → List Nat → Bool
  | _, [], _ => true
  | j, o :: r, b :: bs => (o.after.all (fun e => !Region.binds .any e || decide (e.on < j)) &&
      (if j = p then o.after.all (fun e => !Region.binds .any e) && (o.dst == some d && fillOk ops o p d n 0 all) else if j < n then rowOkP ops o b p j 0 all else fullB b j)) &&
      CheckFast.force (j + 1) fun j' => heapOk ops all n p d j' r bs
  | _, _ :: _, [] => false
def heapB (l : List Oper) (n p d : Nat) : Bool := Region.noSelect l.toArray && decide (n ≤ l.length) && heapOk l.toArray l n p d 0 l (bits l)

theorem rowOkP_spec {ops : Array Oper} {o : Oper} {b p : Nat} : ∀ (n k : Nat) (l : List Oper), rowOkP ops o b p n k l = true → ∀ i x, i < n → l[i]? = some x → k + i = p ∨ Nat.testBit b (k + i) = true ∨ x.apart ops o = true
  | 0, _, _, _, i, _, hi, _ => by omega
  | n + 1, _, [], _, i, x, _, hx => by simp at hx
  | n + 1, k, y :: r, h, i, x, hi, hx => by
    simp only [rowOkP, CheckFast.force_eq, Bool.and_eq_true, Bool.or_eq_true, decide_eq_true_eq] at h
    cases i with
    | zero =>
      simp only [List.getElem?_cons_zero, Option.some.injEq] at hx
      subst hx
      exact h.1
    | succ i =>
      have := rowOkP_spec n (k + 1) r h.2 i x (by omega) (by simpa using hx)
      rwa [show k + 1 + i = k + (i + 1) by omega] at this
theorem fillOk_spec {ops : Array Oper} {o : Oper} {p d : Nat} : ∀ (n k : Nat) (l : List Oper), fillOk ops o p d n k l = true → ∀ i x, i < n → l[i]? = some x → k + i = p ∨ (d ∉ x.looksAt ops ∧ x.dst ≠ some d)
  | 0, _, _, _, i, _, hi, _ => by omega
  | n + 1, _, [], _, i, x, _, hx => by simp at hx
  | n + 1, k, y :: r, h, i, x, hi, hx => by
    simp only [fillOk, CheckFast.force_eq, Bool.and_eq_true, Bool.or_eq_true, decide_eq_true_eq] at h
    cases i with
    | zero =>
      simp only [List.getElem?_cons_zero, Option.some.injEq] at hx
      subst hx
      rcases h.1 with h1 | h1
      · exact .inl h1
      · exact .inr (by simpa using h1)
    | succ i =>
      have := fillOk_spec n (k + 1) r h.2 i x (by omega) (by simpa using hx)
      rwa [show k + 1 + i = k + (i + 1) by omega] at this
theorem fullB_spec {b j : Nat} (h : fullB b j = true) : ∀ i, i < j → Nat.testBit b i = true := fun i hi => by
  have h1 : b % 2 ^ j = 2 ^ j - 1 := by simpa [fullB] using h
  have h2 := congrArg (Nat.testBit · i) h1
  simpa [Nat.testBit_mod_two_pow, Nat.testBit_two_pow_sub_one, hi] using h2

/-- What the check says of one operation. -/
structure HeapAt (ops : Array Oper) (n p d j : Nat) (o : Oper) : Prop where
  back : ∀ e ∈ o.after, Region.binds .any e = true → e.on < j
  lay : j = p → (∀ e ∈ o.after, Region.binds .any e = false) ∧ o.dst = some d ∧ ∀ i x, i < n → i ≠ p → ops[i]? = some x → d ∉ x.looksAt ops ∧ x.dst ≠ some d
  head : j ≠ p → j < n → ∀ i x, i < j → i ≠ p → ops[i]? = some x → Nat.testBit ((Region.before ops).getD j 0) i = true ∨ x.apart ops o = true
  tail : j ≠ p → n ≤ j → ∀ i, i < j → Nat.testBit ((Region.before ops).getD j 0) i = true

theorem heapOk_spec {ops : Array Oper} {all : List Oper} {n p d : Nat} (ha : ops = all.toArray) : ∀ (l : List Oper) (j : Nat) (bs : List Nat), heapOk ops all n p d j l bs = true → (∀ i b, bs[i]? = some b → (Region.before ops).getD (j + i) 0 = b) →
    ∀ i o, l[i]? = some o → HeapAt ops n p d (j + i) o
  | [], _, _, _, _, i, o, ho => by simp at ho
  | x :: r, j, [], h, _, i, o, ho => by simp [heapOk] at h
  | x :: r, j, b :: bs, h, hb, i, o, ho => by
    simp only [heapOk, CheckFast.force_eq, Bool.and_eq_true] at h
    have hall : ∀ (k : Nat) (y : Oper), ops[k]? = some y → all[k]? = some y := fun k y hk => by
      rw [← List.getElem?_toArray, ← ha]; exact hk
    cases i with
    | zero =>
      simp only [List.getElem?_cons_zero, Option.some.injEq] at ho
      subst ho
      have hbj : (Region.before ops).getD (j + 0) 0 = b := hb 0 b rfl
      obtain ⟨⟨h1, h2⟩, -⟩ := h
      refine ⟨fun e he hbi => ?_, fun hj => ?_, fun hj hn i' x' hi hip hx => ?_, fun hj hn i' hi => ?_⟩
      · have := Array.all_eq_true_iff_forall_mem.1 h1 e he
        simpa [hbi] using this
      · rw [if_pos (by simpa using hj)] at h2
        simp only [Bool.and_eq_true, beq_iff_eq] at h2
        refine ⟨fun e he => ?_, h2.2.1, fun i' x' hi hip hx => ?_⟩
        · have := Array.all_eq_true_iff_forall_mem.1 h2.1 e he
          simpa using this
        · rcases fillOk_spec n 0 all h2.2.2 i' x' hi (hall _ _ hx) with h3 | h3
          · omega
          · exact h3
      · rw [Nat.add_zero] at hj hn hi
        rw [if_neg hj, if_pos hn] at h2
        rw [hbj]
        rcases rowOkP_spec j 0 all h2 i' x' hi (hall _ _ hx) with h3 | h3 | h3
        · omega
        · rw [Nat.zero_add] at h3; exact .inl h3
        · exact .inr h3
      · rw [Nat.add_zero] at hj hn hi
        rw [if_neg hj, if_neg (by omega)] at h2
        rw [hbj]
        exact fullB_spec h2 i' hi
    | succ i =>
      have := heapOk_spec ha r (j + 1) bs h.2 (fun i b hi => by
        have := hb (i + 1) b (by simpa using hi)
        rwa [show j + (i + 1) = j + 1 + i by omega] at this) i o (by simpa using ho)
      rwa [show j + 1 + i = j + (i + 1) by omega] at this

section
variable {P : Program} {ops : Array Oper} {C : World → Prop} {n p d : Nat}

/-- The first k are listed, and p; no other. -/
def FirstP (s k p : Nat) (m : Array Bool) : Prop := m.size = s ∧ (∀ j, j < k → j < s → m.getD j false = true) ∧ (p < s → m.getD p false = true) ∧ ∀ j, k ≤ j → j < s → j ≠ p → m.getD j true = false
theorem firstP_set {s k : Nat} {m : Array Bool} (h : FirstP s k p m) (hk : k < s) : FirstP s (k + 1) p (m.setIfInBounds k true) := by
  obtain ⟨h1, h2, h3, h4⟩ := h
  refine ⟨by simpa using h1, fun j hj hn => ?_, fun hp => getD_set_true (h3 hp), fun j hj hn hjp => ?_⟩
  · by_cases hjk : k = j
    · subst hjk
      simp [h1, hn]
    · rw [getD_set_ne false hjk]
      exact h2 j (by omega) hn
  · rw [getD_set_ne true (by omega)]
    exact h4 j (by omega) hn hjp
theorem firstP_shut {k : Nat} {m : Array Bool} (H : ∀ j o, ops[j]? = some o → HeapAt ops n p d j o) (h : FirstP ops.size k p m) : Shut ops m := by
  intro j oj hj hl e he hb
  have hjs : j < ops.size := (Array.getElem?_eq_some_iff.1 hj).1
  by_cases hjp : j = p
  · have := ((H j oj hj).lay hjp).1 e he
    rw [hb] at this
    cases this
  · have hjk : j < k := by
      rcases Nat.lt_or_ge j k with h' | h'
      · exact h'
      · have := h.2.2.2 j h' hjs hjp
        rw [getD_both this] at hl
        cases hl
    have := (H j oj hj).back e he hb
    exact h.2.1 e.on (by omega) (by omega)

theorem headQ_firstB {i : Nat} {oi : Oper} {v : Value} {L : Array Bool → Act → Prop} (H : ∀ j o, ops[j]? = some o → HeapAt ops n p d j o) (hpn : p < n ∨ ops.size ≤ p) (hi : ops[i]? = some oi) (hsel : ∀ (j : Nat) (o : Oper) cs b, ops[j]? = some o → o.op ≠ .select cs b)
    (hin : i < n) (hdone : ∀ m a, L m a → ∀ j ∈ Region.ready .any ops m, n ≤ j) :
    ∀ (f : Nat) (m : Array Bool) (a : Act), Shut ops m →
      (∀ j oj, ops[j]? = some oj → j ≠ i → m.getD j true = false → Nat.testBit ((Region.before ops).getD j 0) i = false → oi.apart ops oj = true) →
      i ∈ Region.ready .any ops m → YieldsIn P ops C oi v a → headQ P .any ops C n L f (m.setIfInBounds i true) (a.put oi.dst v) → headQ P .any ops C n L (f + 1) m a := by
  intro f
  have hlow : ∀ (m : Array Bool), Shut ops m → i ∈ Region.ready .any ops m → ∀ j ∈ Region.ready .any ops m, Nat.testBit ((Region.before ops).getD j 0) i = false ∧ j < n := by
    intro m hsh hr j hj
    obtain ⟨hjun, oj, hoj, hall⟩ := mem_ready.1 hj
    have hnb : Nat.testBit ((Region.before ops).getD j 0) i = false := by
      cases hb : Nat.testBit ((Region.before ops).getD j 0) i
      · rfl
      · have h3 := shut_bit hsh i j j rfl oj hoj hall hb
        have h4 := getD_both (mem_ready.1 hr).1
        rw [h3] at h4
        cases h4
    refine ⟨hnb, Nat.lt_of_not_le fun hle => ?_⟩
    have hjs := (Array.getElem?_eq_some_iff.1 hoj).1
    have := (H j oj hoj).tail (by omega) hle i (by omega)
    rw [hnb] at this
    cases this
  induction f with
  | zero =>
    intro m a hsh _ hr hy h
    refine ⟨fun h => (by rw [h] at hr; cases hr), fun j hj => ⟨(hlow m hsh hr j hj).2, ?_⟩⟩
    by_cases hji : j = i
    · subst hji
      exact hy.qOp hi h
    · have := hdone _ _ h j (ready_mono hj hji)
      have := (hlow m hsh hr j hj).2
      omega
  | succ f ih =>
    intro m a hsh hfree hr hy h
    refine ⟨fun h => (by rw [h] at hr; cases hr), fun j hj => ⟨(hlow m hsh hr j hj).2, ?_⟩⟩
    by_cases hji : j = i
    · subst hji
      exact hy.qOp hi h
    · have h1 := (h.2 j (ready_mono hj hji)).2
      obtain ⟨hjun, oj, hoj, hall⟩ := mem_ready.1 hj
      have h2 := qOp_put hoj (hfree j oj hoj hji hjun (hlow m hsh hr j hj).1) (fun cs b => hsel i oi cs b hi) (fun cs b => hsel j oj cs b hoj) hy h1
      refine qOp_mono (fun a' h3 => ih (m.setIfInBounds j true) a' (shut_set hsh hj) ?_ (ready_mono hr (Ne.symm hji)) h3.1 ?_) h2
      · intro k ok hk hki hkun hno
        refine hfree k ok hk hki ?_ hno
        by_cases hjk : j = k
        · subst hjk; exact hjun
        · rw [getD_set_ne true hjk] at hkun; exact hkun
      · rw [Array.setIfInBounds_comm _ _ hji]
        exact h3.2

/-- A list whose place p is left out; its first is number k. -/
def skipAt (p : Nat) : Nat → List Oper → List Oper
  | _, [] => []
  | k, o :: r => if k = p then skipAt p (k + 1) r else o :: skipAt p (k + 1) r
theorem skipAt_past : ∀ (l : List Oper) (k : Nat), p < k → skipAt p k l = l
  | [], _, _ => rfl
  | o :: r, k, h => by rw [skipAt, if_neg (by omega), skipAt_past r (k + 1) (by omega)]
theorem skipAt_length : ∀ (l : List Oper) (k : Nat), k ≤ p → p < k + l.length → (skipAt p k l).length + 1 = l.length
  | [], k, h, h' => by simp at h'; omega
  | o :: r, k, h, h' => by
    rw [skipAt]
    by_cases hk : k = p
    · rw [if_pos hk, skipAt_past r (k + 1) (by omega)]; rfl
    · rw [if_neg hk, List.length_cons, skipAt_length r (k + 1) (by omega) (by simp only [List.length_cons] at h'; omega)]; rfl

theorem headQ_lexB {Lq : Act → Prop} (H : ∀ j o, ops[j]? = some o → HeapAt ops n p d j o) (hpn : p < n ∨ ops.size ≤ p) (hns : n ≤ ops.size) (hsel : Region.noSelect ops = true) : ∀ (l : List Oper) (k : Nat) (m : Array Bool) (a : Act), (∀ j, j < l.length → l[j]? = ops[k + j]?) → k + l.length = n →
    FirstP ops.size k p m → wpQuiet P ops C Lq (skipAt p k l) a → headQ P .any ops C n (fun m' a' => FirstP ops.size n p m' ∧ Lq a') (skipAt p k l).length m a
  | [], k, m, a, _, hk, hf, h => by
    obtain rfl : k = n := by simpa using hk
    exact ⟨hf, h⟩
  | o :: l, k, m, a, hl, hk, hf, h => by
    have h0 : ops[k]? = some o := by simpa using (hl 0 (by simp)).symm
    have hks : k < ops.size := (Array.getElem?_eq_some_iff.1 h0).1
    have hkn : k < n := by simp only [List.length_cons] at hk; omega
    have hl' : ∀ j, j < l.length → l[j]? = ops[k + 1 + j]? := fun j hj => by
      have := hl (j + 1) (by simp; omega)
      simpa [Nat.add_assoc, Nat.add_comm 1 j] using this
    have hk' : k + 1 + l.length = n := by simp only [List.length_cons] at hk; omega
    rw [skipAt] at h ⊢
    by_cases hkp : k = p
    · rw [if_pos hkp] at h ⊢
      refine headQ_lexB H hpn hns hsel l (k + 1) m a hl' hk' ⟨hf.1, fun j hj hn => ?_, hf.2.2.1, fun j hj hn hjp => hf.2.2.2 j (by omega) hn hjp⟩ h
      by_cases hjk : j = k
      · rw [hjk, hkp]
        exact hf.2.2.1 (by omega)
      · exact hf.2.1 j (by omega) hn
    · rw [if_neg hkp] at h ⊢
      have hst : qOp P ops C k (wpQuiet P ops C Lq (skipAt p (k + 1) l)) a := by unfold qOp; simp only [h0]; exact h
      obtain ⟨v, hy, hK⟩ := yieldsIn_of_qOp h0 hst
      have hr : k ∈ Region.ready .any ops m := mem_ready.2 ⟨hf.2.2.2 k (Nat.le_refl _) hks hkp, o, h0, fun e he hb => hf.2.1 e.on ((H k o h0).back e he hb) (by have := (H k o h0).back e he hb; omega)⟩
      refine headQ_firstB H hpn h0 (Region.noSelect_spec hsel) hkn (fun m' a' hL j hj => ?_) _ m a (firstP_shut H hf) (fun j oj hj hne hun hnb => ?_) hr hy
        (headQ_lexB H hpn hns hsel l (k + 1) _ _ hl' hk' (firstP_set hf hks) hK)
      · obtain ⟨hun, oj, hoj, -⟩ := mem_ready.1 hj
        refine Nat.le_of_not_lt fun hlt => ?_
        have := hL.1.2.1 j hlt (Array.getElem?_eq_some_iff.1 hoj).1
        rw [getD_both hun] at this
        cases this
      · have hjs : j < ops.size := (Array.getElem?_eq_some_iff.1 hj).1
        have hjp : j ≠ p := fun he => by
          rw [he] at hun hjs
          have := hf.2.2.1 hjs
          rw [getD_both hun] at this
          cases this
        have hkj : k < j := by
          rcases Nat.lt_or_ge j k with h' | h'
          · have := hf.2.1 j h' hjs
            rw [getD_both hun] at this
            cases this
          · omega
        rcases Nat.lt_or_ge j n with h' | h'
        · rcases (H j oj hj).head hjp h' k o hkj hkp h0 with h1 | h1
          · rw [hnb] at h1
            cases h1
          · exact h1
        · have := (H j oj hj).tail hjp h' k hkj
          rw [hnb] at this
          cases this

/-- The tail, one behind the other. -/
theorem tail_list {Q : Exit → Act → World → Prop} (H : ∀ j o, ops[j]? = some o → HeapAt ops n p d j o) (hpn : p < n ∨ ops.size ≤ p) : ∀ (l : List Oper) (k : Nat) (m : Array Bool) (a : Act) (w : World), (∀ j, l[j]? = ops[k + j]?) → n ≤ k → k + l.length = ops.size →
    FirstP ops.size k p m → wpList P ops Q l a w → wpAny P .any ops Q l.length m a w
  | [], k, m, a, w, _, _, hk, hf, h => by
    refine ⟨?_, h⟩
    apply List.eq_nil_iff_forall_not_mem.2
    intro i hi
    obtain ⟨hun, oi, hoi, _⟩ := mem_ready.1 hi
    have hlt := (Array.getElem?_eq_some_iff.1 hoi).1
    have h1 := hf.2.1 i (by simp at hk; omega) hlt
    rw [getD_both hun] at h1
    cases h1
  | o :: l, k, m, a, w, hl, hnk, hk, hf, h => by
    have h0 : ops[k]? = some o := by simpa using (hl 0).symm
    have hks : k < ops.size := (Array.getElem?_eq_some_iff.1 h0).1
    have hr : k ∈ Region.ready .any ops m := mem_ready.2 ⟨hf.2.2.2 k (Nat.le_refl _) hks (by omega), o, h0, fun e he hb => hf.2.1 e.on ((H k o h0).back e he hb) (by have := (H k o h0).back e he hb; omega)⟩
    refine ⟨fun h1 => (by rw [h1] at hr; cases hr), fun i hi => ?_⟩
    obtain ⟨hun, oi, hoi, hall⟩ := mem_ready.1 hi
    have hlt := (Array.getElem?_eq_some_iff.1 hoi).1
    have hik : i = k := by
      rcases Nat.lt_trichotomy i k with h' | h' | h'
      · have h1 := hf.2.1 i h' hlt
        rw [getD_both hun] at h1
        cases h1
      · exact h'
      · have h1 := (H i oi hoi).tail (by omega) (by omega) k h'
        have h3 := shut_bit (firstP_shut H hf) k i i rfl oi hoi hall h1
        have h4 := getD_both (mem_ready.1 hr).1
        rw [h3] at h4
        cases h4
    subst hik
    have hw : wpOp P ops Q i (wpList P ops Q l) a w := by unfold wpOp; simp only [h0]; exact h
    exact wpOp_mono (fun a' w' h' => tail_list H hpn l (i + 1) _ a' w' (fun j => by have := hl (j + 1); simpa [Nat.add_assoc, Nat.add_comm 1 j] using this) (by omega) (by simp only [List.length_cons] at hk; omega) (firstP_set hf hks) h') hw

/-- w with x behind it, and more. -/
def MoreX (w : World) (x : Rest) : World → Prop := fun w' => ∃ r, w' = more w (x.plus r)
def zeroR : Rest := ⟨#[], 0⟩
def sameR (x : Rest) : Rest := ⟨#[], x.n⟩
theorem plus_same (x : Rest) : x.plus (sameR x) = x := by simp [Rest.plus, sameR]
theorem zero_plus (x : Rest) : zeroR.plus x = x := by simp [Rest.plus, zeroR]
theorem plus_plus (x y z : Rest) : (x.plus y).plus z = x.plus (y.plus z) := by simp [Rest.plus, Array.append_assoc]
theorem more_alloc (w : World) (r s : Rest) (z : Obj) : more w (Rest.plus ⟨r.X.push z, r.n⟩ s) = more ((more w r).alloc z) s := by
  unfold more Rest.plus World.alloc
  simp

/-- **A block that is laid at any time**: what the head answers does not hang on when, the tail comes behind all. -/
theorem heap_any {Q : Exit → Act → World → Prop} {w : World} {z : Obj} {op : Oper} {tl : List Oper} (H : ∀ j o, ops[j]? = some o → HeapAt ops n p d j o) (hpn : p < n) (hsel : Region.noSelect ops = true)
    (hop : ops[p]? = some op) (hw : op.guard = none) (hz : ∀ (a : Act) (w' : World), (execOp a.eval op).run P w' = .ok (.value (.pointer (some ⟨w'.heap.size, 0, none⟩))) (w'.alloc z))
    (htl : ∀ j, tl[j]? = ops[n + j]?) (hlen : n + tl.length = ops.size) :
    ∀ (f : Nat) (m : Array Bool) (a : Act) (W : World), Shut ops m → m.getD p true = false →
      (∀ x, headQ P .any ops (MoreX w x) n (fun m' a' => FirstP ops.size n p m' ∧ ∀ r1 r2, wpList P ops Q tl (a'.put (some d) (.pointer (some ⟨w.heap.size + r1.len, 0, none⟩))) (more ((more w r1).alloc z) r2)) f (m.setIfInBounds p true) a) →
      MoreX w zeroR W → wpAny P .any ops Q (f + 1 + tl.length) m a W := by
  have hps : p < ops.size := (Array.getElem?_eq_some_iff.1 hop).1
  have hlay := (H p op hop).lay rfl
  have hpr : ∀ m : Array Bool, m.getD p true = false → p ∈ Region.ready .any ops m := fun m hm => mem_ready.2 ⟨hm, op, hop, fun e he hb => by rw [hlay.1 e he] at hb; cases hb⟩
  -- the block is laid now
  have lay : ∀ (f : Nat) (m : Array Bool) (a : Act) (W : World), m.getD p true = false →
      (∀ x, headQ P .any ops (MoreX w x) n (fun m' a' => FirstP ops.size n p m' ∧ ∀ r1 r2, wpList P ops Q tl (a'.put (some d) (.pointer (some ⟨w.heap.size + r1.len, 0, none⟩))) (more ((more w r1).alloc z) r2)) f (m.setIfInBounds p true) a) →
      MoreX w zeroR W → wpOp P ops Q p (wpAny P .any ops Q (f + tl.length) (m.setIfInBounds p true)) a W := by
    intro f m a W hm hx hW
    obtain ⟨R, rfl⟩ := hW
    rw [zero_plus]
    unfold wpOp
    simp only [hop]
    have hwant : Region.wanted op (yielded ops a.tmps) = true := by simp [Region.wanted, hw]
    rw [if_pos hwant]
    refine .inl ?_
    unfold Oper.wp
    rw [hz, Oper.upon_value, hlay.2.1, size_more]
    have hps' : p < m.size := by
      rcases Nat.lt_or_ge p m.size with h | h
      · exact h
      · simp [Array.getElem?_eq_none h, Array.getD_eq_getD_getElem?] at hm
    have h1 := headQ_fill (P := P) (C := MoreX w ⟨R.X.push z, R.n⟩) (d := d) (Region.noSelect_spec hsel) (.pointer (some ⟨w.heap.size + R.len, 0, none⟩)) f (m.setIfInBounds p true) a (fun j o ho hj hun => by
      have hjp : j ≠ p := fun he => by
        subst he
        simp [hps'] at hun
      exact hlay.2.2 j o hj hjp ho) (hx ⟨R.X.push z, R.n⟩)
    refine any_of_headQ (C := MoreX w ⟨R.X.push z, R.n⟩) (fun m' a' W' hC hL => ?_) f _ _ _ ⟨sameR R, ?_⟩ h1
    · obtain ⟨b, rfl, hF, hL⟩ := hL
      obtain ⟨r2, rfl⟩ := hC
      rw [more_alloc]
      exact tail_list H (.inl hpn) tl n m' _ _ htl (Nat.le_refl _) hlen hF (hL R r2)
    · rw [more_alloc]
      exact (more_self _).symm
  intro f
  induction f with
  | zero =>
    intro m a W hsh hm hx hW
    rw [show 0 + 1 + tl.length = (0 + tl.length) + 1 by omega]
    refine ⟨fun h => (by have := hpr m hm; rw [h] at this; cases this), fun i hi => ?_⟩
    by_cases hip : i = p
    · subst hip
      exact lay 0 m a W hm hx hW
    · exfalso
      obtain ⟨hun, oi, hoi, hall⟩ := mem_ready.1 hi
      have his : i < ops.size := (Array.getElem?_eq_some_iff.1 hoi).1
      have hF : FirstP ops.size n p (m.setIfInBounds p true) := (hx zeroR).1
      have hni : n ≤ i := by
        refine Nat.le_of_not_lt fun hlt => ?_
        have h1 := hF.2.1 i hlt his
        rw [getD_set_ne false (Ne.symm hip), getD_both hun] at h1
        cases h1
      have h3 := shut_bit hsh p i i rfl oi hoi hall ((H i oi hoi).tail hip hni p (by omega))
      rw [getD_both hm] at h3
      cases h3
  | succ f ih =>
    intro m a W hsh hm hx hW
    rw [show f + 1 + 1 + tl.length = (f + 1 + tl.length) + 1 by omega]
    refine ⟨fun h => (by have := hpr m hm; rw [h] at this; cases this), fun i hi => ?_⟩
    by_cases hip : i = p
    · subst hip
      exact lay (f + 1) m a W hm hx hW
    · have hi' := ready_mono (i := p) hi hip
      have h1 := headQ_all (C := MoreX w zeroR) (fun x => ⟨more w x, ⟨x, by rw [zero_plus]⟩, ⟨sameR x, by rw [plus_same]⟩⟩) (hx zeroR) hx i hi'
      refine wpOp_of_qOp (C := MoreX w zeroR) hW (fun a' W' hW' hK => ih (m.setIfInBounds i true) a' W' (shut_set hsh hi) ?_ ?_ hW') h1.2
      · rw [getD_set_ne true hip]
        exact hm
      · rw [Array.setIfInBounds_comm _ _ hip]
        exact hK.2
end

theorem skip_take {n p : Nat} {l : List Oper} (hp : p < n) (hn : n ≤ l.length) : (skipAt p 0 (l.take n)).length + 1 = n := by
  have := skipAt_length (p := p) (l.take n) 0 (by omega) (by simp; omega)
  simpa [Nat.min_eq_left hn] using this

/-- A region with one block laid in its midst (place p, slot d), its tail from n on. -/
theorem wp_heap {P : Program} {id : Nat} {Q : Exit → Act → World → Prop} {a : Act} {w W : World} {l : List Oper} (n p d : Nat) {z : Obj} {op : Oper} (hm : P.follows .mixedOrders = true) (hB : heapB l n p d = true)
    (hW : MoreX w zeroR { W with drawn := W.drawn + 1 }) (hop : l[p]? = some op) (hp : p < n) (hg : op.guard = none) (hz : ∀ (a : Act) (w' : World), (execOp a.eval op).run P w' = .ok (.value (.pointer (some ⟨w'.heap.size, 0, none⟩))) (w'.alloc z))
    (h : ∀ x : Rest, wpQuiet P l.toArray (fun w' => ∃ r, w' = more w (x.plus r)) (fun a' => ∀ r1 r2, wpList P l.toArray Q (l.drop n) (a'.put (some d) (.pointer (some ⟨w.heap.size + r1.len, 0, none⟩))) (more ((more w r1).alloc z) r2)) (skipAt p 0 (l.take n)) a) :
    (Code.region id l.toArray true).wp P Q a W := by
  simp only [heapB, Bool.and_eq_true, decide_eq_true_eq] at hB
  obtain ⟨⟨hsel, hn⟩, hok⟩ := hB
  have H : ∀ j o, l.toArray[j]? = some o → HeapAt l.toArray n p d j o := fun j o ho => by
    have := heapOk_spec (ops := l.toArray) rfl l 0 _ hok (fun i b hi => by
      rw [bits_eq, Array.getElem?_toList] at hi
      simp [Array.getD_eq_getD_getElem?, hi]) j o (by simpa using ho)
    rwa [Nat.zero_add] at this
  have hps : p < l.length := by omega
  refine wp_region_any hm ?_
  have hrep : ∀ j, j < l.toArray.size → (Array.replicate l.toArray.size false).getD j true = false := fun j hj => getD_in (by simpa using hj) (getD_replicate_false _ _)
  have hF : FirstP l.toArray.size 0 p ((Array.replicate l.toArray.size false).setIfInBounds p true) := by
    refine ⟨by simp, fun j hj => by omega, fun hp' => ?_, fun j _ hj hjp => ?_⟩
    · have hp'' : p < l.length := hps
      simp [hp'']
    · rw [getD_set_ne true (Ne.symm hjp)]
      exact hrep j hj
  have hall := heap_any (P := P) (Q := Q) (w := w) (z := z) (tl := l.drop n) H hp hsel (by simpa using hop) hg hz (fun j => by simp [List.getElem?_drop]) (by simp; omega) (skipAt p 0 (l.take n)).length (Array.replicate l.toArray.size false) a _
    (fun j oj _ hl => by rw [getD_replicate_false] at hl; cases hl) (hrep p (by simpa using hps)) (fun x => ?_) hW
  · rw [skip_take hp hn] at hall
    have e : n + (l.drop n).length = l.toArray.size := by simp; omega
    rwa [e] at hall
  · exact headQ_lexB H (.inl hp) (by simpa using hn) hsel (l.take n) 0 _ a (fun j hj => by
      have hj' : j < n := by simp at hj; omega
      simp [hj']) (by simp; omega) hF (h x)

theorem wp_more_heap {P : Program} {id : Nat} {Q : Exit → Act → World → Prop} {a : Act} {w : World} {l : List Oper} (n p d : Nat) {z : Obj} {op : Oper} (hm : P.follows .mixedOrders = true) (hB : heapB l n p d = true)
    (hop : l[p]? = some op) (hp : p < n) (hg : op.guard = none) (hz : ∀ (a : Act) (w' : World), (execOp a.eval op).run P w' = .ok (.value (.pointer (some ⟨w'.heap.size, 0, none⟩))) (w'.alloc z))
    (h : ∀ x : Rest, wpQuiet P l.toArray (fun w' => ∃ r, w' = more w (x.plus r)) (fun a' => ∀ r1 r2, wpList P l.toArray Q (l.drop n) (a'.put (some d) (.pointer (some ⟨w.heap.size + r1.len, 0, none⟩))) (more ((more w r1).alloc z) r2)) (skipAt p 0 (l.take n)) a) :
    (Code.region id l.toArray true).wp P Q a w :=
  wp_heap n p d hm hB ⟨⟨#[], w.drawn + 1⟩, by unfold more Rest.plus zeroR; simp⟩ hop hp hg hz h
theorem wp_more_heap_m {P : Program} {id : Nat} {Q : Exit → Act → World → Prop} {a : Act} {w : World} {s : Rest} {l : List Oper} (n p d : Nat) {z : Obj} {op : Oper} (hm : P.follows .mixedOrders = true) (hB : heapB l n p d = true)
    (hop : l[p]? = some op) (hp : p < n) (hg : op.guard = none) (hz : ∀ (a : Act) (w' : World), (execOp a.eval op).run P w' = .ok (.value (.pointer (some ⟨w'.heap.size, 0, none⟩))) (w'.alloc z))
    (h : ∀ x : Rest, wpQuiet P l.toArray (fun w' => ∃ r, w' = more w (x.plus r)) (fun a' => ∀ r1 r2, wpList P l.toArray Q (l.drop n) (a'.put (some d) (.pointer (some ⟨w.heap.size + r1.len, 0, none⟩))) (more ((more w r1).alloc z) r2)) (skipAt p 0 (l.take n)) a) :
    (Code.region id l.toArray true).wp P Q a (more w s) :=
  wp_heap n p d hm hB ⟨s.draw 1, by rw [zero_plus, ← more_drew]; rfl⟩ hop hp hg hz h

/-- No block in its midst: the head in whatever order, then the tail. -/
theorem wp_tailq {P : Program} {id : Nat} {Q : Exit → Act → World → Prop} {a : Act} {w : World} {l : List Oper} {C : World → Prop} (n : Nat) (hm : P.follows .mixedOrders = true) (hB : heapB l n l.length 0 = true)
    (hC : C { w with drawn := w.drawn + 1 }) (h : wpQuiet P l.toArray C (fun a' => ∀ w', C w' → wpList P l.toArray Q (l.drop n) a' w') (l.take n) a) : (Code.region id l.toArray true).wp P Q a w := by
  simp only [heapB, Bool.and_eq_true, decide_eq_true_eq] at hB
  obtain ⟨⟨hsel, hn⟩, hok⟩ := hB
  have H : ∀ j o, l.toArray[j]? = some o → HeapAt l.toArray n l.length 0 j o := fun j o ho => by
    have := heapOk_spec (ops := l.toArray) rfl l 0 _ hok (fun i b hi => by
      rw [bits_eq, Array.getElem?_toList] at hi
      simp [Array.getD_eq_getD_getElem?, hi]) j o (by simpa using ho)
    rwa [Nat.zero_add] at this
  have hpn : l.length < n ∨ l.toArray.size ≤ l.length := .inr (by simp)
  have hF : FirstP l.toArray.size 0 l.length (Array.replicate l.toArray.size false) :=
    ⟨by simp, fun j hj => by omega, fun hp' => by simp at hp', fun j _ hj _ => getD_in (by simpa using hj) (getD_replicate_false _ _)⟩
  have hskip : ∀ (r : List Oper) (k : Nat), k + r.length ≤ l.length → skipAt l.length k r = r := by
    intro r
    induction r with
    | nil => intro k _; rfl
    | cons o r ih =>
      intro k hk
      simp only [List.length_cons] at hk
      rw [skipAt, if_neg (by omega), ih (k + 1) (by omega)]
  have htn : (l.take n).length = n := by simp; omega
  have hs := hskip (l.take n) 0 (by omega)
  have hq := headQ_lexB (P := P) (C := C) (Lq := fun a' => ∀ w', C w' → wpList P l.toArray Q (l.drop n) a' w') H hpn (by simpa using hn) hsel (l.take n) 0 _ a (fun j hj => by
      have hj' : j < n := by omega
      simp [hj']) (by omega) hF (by rw [hs]; exact h)
  rw [hs, htn] at hq
  refine wp_region_any hm ?_
  have hall := any_of_headQ (C := C) (Q := Q) (g := (l.drop n).length) (fun m' a' w' hC' hL => tail_list H hpn (l.drop n) n m' a' w' (fun j => by simp [List.getElem?_drop]) (Nat.le_refl _) (by simp; omega) hL.1 (hL.2 w' hC')) _ _ _ _ hC hq
  have e : n + (l.drop n).length = l.toArray.size := by simp; omega
  rwa [e] at hall
theorem wp_more_tailq {P : Program} {id : Nat} {Q : Exit → Act → World → Prop} {a : Act} {w : World} {l : List Oper} (n : Nat) (hm : P.follows .mixedOrders = true) (hB : heapB l n l.length 0 = true)
    (h : wpQuiet P l.toArray (fun w' => ∃ r, w' = more w r) (fun a' => ∀ r, wpList P l.toArray Q (l.drop n) a' (more w r)) (l.take n) a) : (Code.region id l.toArray true).wp P Q a w :=
  wp_tailq (C := MoreC w) n hm hB (moreC_one w) (by
    have e : (fun a' => ∀ w', MoreC w w' → wpList P l.toArray Q (l.drop n) a' w') = (fun a' => ∀ r, wpList P l.toArray Q (l.drop n) a' (more w r)) := by
      funext a'
      exact propext ⟨fun h r => h _ ⟨r, rfl⟩, fun h w' ⟨r, e⟩ => by rw [e]; exact h r⟩
    rw [e]
    exact h)
theorem wp_more_tailq_m {P : Program} {id : Nat} {Q : Exit → Act → World → Prop} {a : Act} {w : World} {s : Rest} {l : List Oper} (n : Nat) (hm : P.follows .mixedOrders = true) (hB : heapB l n l.length 0 = true)
    (h : wpQuiet P l.toArray (fun w' => ∃ r, w' = more w r) (fun a' => ∀ r, wpList P l.toArray Q (l.drop n) a' (more w r)) (l.take n) a) : (Code.region id l.toArray true).wp P Q a (more w s) :=
  wp_tailq (C := MoreC w) n hm hB ⟨s.draw 1, by rw [← more_drew]; rfl⟩ (by
    have e : (fun a' => ∀ w', MoreC w w' → wpList P l.toArray Q (l.drop n) a' w') = (fun a' => ∀ r, wpList P l.toArray Q (l.drop n) a' (more w r)) := by
      funext a'
      exact propext ⟨fun h r => h _ ⟨r, rfl⟩, fun h w' ⟨r, e⟩ => by rw [e]; exact h r⟩
    rw [e]
    exact h)

/-- A contract, met in the midst of such a region. -/
theorem quiet_up {P : Program} {f : FuncId} {args : Array Value} {w : World} {x r : Rest} {v : Value}
    (h : Calls P f args (more w (x.plus r)) fun e w' => e = .returned v ∧ More (more w (x.plus r)) w') : Calls P f args (more w (x.plus r)) fun e w'' => e = .returned v ∧ ∃ s, w'' = more w (x.plus s) :=
  h.mono fun _ _ ⟨he, s, hm⟩ => ⟨he, r.plus s, by rw [hm, more_more, plus_plus]⟩
theorem quiet_up_same {P : Program} {f : FuncId} {args : Array Value} {w : World} {x r : Rest} {v : Value}
    (h : Calls P f args (more w (x.plus r)) fun e w' => e = .returned v ∧ more w (x.plus r) = w') : Calls P f args (more w (x.plus r)) fun e w'' => e = .returned v ∧ ∃ s, w'' = more w (x.plus s) :=
  h.mono fun _ _ ⟨he, hm⟩ => ⟨he, r, hm.symm⟩
theorem quiet_up_b {P : Program} {f : FuncId} {args : Array Value} {w : World} {x r : Rest} {b c : Bool}
    (h : Calls P f args (more w (x.plus r)) fun e w' => e = .returned (.bool c) ∧ More (more w (x.plus r)) w') (e : c = b) : Calls P f args (more w (x.plus r)) fun e w'' => e = .returned (.bool b) ∧ ∃ s, w'' = more w (x.plus s) :=
  quiet_up (e ▸ h)
theorem quiet_up_same_b {P : Program} {f : FuncId} {args : Array Value} {w : World} {x r : Rest} {b c : Bool}
    (h : Calls P f args (more w (x.plus r)) fun e w' => e = .returned (.bool c) ∧ more w (x.plus r) = w') (e : c = b) : Calls P f args (more w (x.plus r)) fun e w'' => e = .returned (.bool b) ∧ ∃ s, w'' = more w (x.plus s) :=
  quiet_up_same (e ▸ h)

end Go.Proofs.YthhipepdkpoomaaDoor

