/-
  Regions that draw their order, with a store at their end, and an operation that takes a part of an answer and may come ahead of that store or behind it: as if it came ahead.
-/
import Derived.Test.YtolfobgpgmfnpaaDoorGa
namespace Go.Proofs.YtolfobgpgmfnpaaDoor
set_option linter.unusedVariables false
open Go.RowKit

/-- An operation with other edges. -/
def Sameish (x y : Oper) : Prop := ∃ A, y = { x with after := A }
theorem sameish_op {P : Program} {x y : Oper} (h : Sameish x y) (ρ : Operand → Value) : execOp ρ y = execOp ρ x := by
  obtain ⟨A, rfl⟩ := h
  cases x
  rfl
/-- What had an edge on q, whatever its ground, waits for q. -/
def lateOp (q : Nat) (o : Oper) : Oper := if o.after.any (fun e => e.on == q) then { o with after := o.after.push ⟨q, .phase⟩ } else o
def late (q : Nat) (l : List Oper) : List Oper := l.map (lateOp q)
theorem lateOp_same (q : Nat) (o : Oper) : Sameish o (lateOp q o) := by
  unfold lateOp
  split
  · exact ⟨_, rfl⟩
  · exact ⟨o.after, rfl⟩
theorem lateOp_wp {P : Program} {Q : Exit → Act → World → Prop} (q : Nat) (o : Oper) (a : Act) (w : World) (K : Act → World → Prop) : (lateOp q o).wp P a w K Q = o.wp P a w K Q := by
  obtain ⟨A, h⟩ := lateOp_same q o
  have e := sameish_op (P := P) ⟨A, h⟩ a.eval
  unfold Oper.wp
  rw [e, h]
  generalize (execOp a.eval o).run P w = r
  cases r with
  | ok n w' => cases n <;> rfl
  | halt x w' => cases x <;> rfl
theorem lateOp_asks {P : Program} (q : Nat) (o : Oper) (a : Act) (w : World) : (lateOp q o).asks P a w = o.asks P a w := by
  have e := sameish_op (P := P) (lateOp_same q o) a.eval
  unfold Oper.asks
  rw [e]
theorem lateOp_dst (q : Nat) (o : Oper) : (lateOp q o).dst = o.dst := by obtain ⟨A, h⟩ := lateOp_same q o; rw [h]
theorem lateOp_guard (q : Nat) (o : Oper) : (lateOp q o).guard = o.guard := by obtain ⟨A, h⟩ := lateOp_same q o; rw [h]
theorem lateOp_quiet {P : Program} {C : World → Prop} {K : Act → Prop} (q : Nat) (o : Oper) (a : Act) : (lateOp q o).quiet P a C K = o.quiet P a C K := by
  have e := sameish_op (P := P) (lateOp_same q o) a.eval
  unfold Oper.quiet Oper.quietAt
  rw [e, lateOp_dst]
theorem late_get (q : Nat) (l : List Oper) (j : Nat) : (late q l).toArray[j]? = (l.toArray[j]?).map (lateOp q) := by unfold late; simp
theorem late_yielded (q : Nat) (l : List Oper) : yielded (late q l).toArray = yielded l.toArray := by
  funext t j
  unfold yielded
  rw [late_get]
  cases l.toArray[j]? with
  | none => rfl
  | some o => simp [lateOp_dst]
theorem lateOp_wanted (q : Nat) (l : List Oper) (o : Oper) (a : Act) : Region.wanted (lateOp q o) (yielded (late q l).toArray a.tmps) = Region.wanted o (yielded l.toArray a.tmps) := by
  rw [late_yielded]
  unfold Region.wanted
  rw [lateOp_guard]
theorem late_wpOp {P : Program} {Q : Exit → Act → World → Prop} {q : Nat} {l : List Oper} {i : Nat} {K : Act → World → Prop} {a : Act} {w : World} : wpOp P (late q l).toArray Q i K a w = wpOp P l.toArray Q i K a w := by
  unfold wpOp
  rw [late_get]
  cases l.toArray[i]? with
  | none => rfl
  | some o =>
    simp only [Option.map_some]
    rw [lateOp_wanted, lateOp_wp, lateOp_asks, lateOp_dst]
/-- The walks are the same. -/
theorem late_wpList {P : Program} {Q : Exit → Act → World → Prop} {q : Nat} {l : List Oper} : ∀ (r : List Oper) (a : Act) (w : World), wpList P (late q l).toArray Q (late q r) a w = wpList P l.toArray Q r a w
  | [], a, w => rfl
  | o :: r, a, w => by
    have ih : wpList P (late q l).toArray Q (r.map (lateOp q)) = wpList P l.toArray Q r := by funext a w; exact late_wpList r a w
    unfold late at ih ⊢
    rw [List.map_cons]
    unfold wpList
    rw [ih]
    have e := lateOp_wanted q l o a
    unfold late at e
    rw [e, lateOp_wp, lateOp_asks, lateOp_dst]
theorem late_wpQuiet {P : Program} {C : World → Prop} {K : Act → Prop} {q : Nat} {l : List Oper} : ∀ (r : List Oper) (a : Act), wpQuiet P (late q l).toArray C K (late q r) a = wpQuiet P l.toArray C K r a
  | [], a => rfl
  | o :: r, a => by
    have ih : wpQuiet P (late q l).toArray C K (r.map (lateOp q)) = wpQuiet P l.toArray C K r := by funext a; exact late_wpQuiet r a
    unfold late at ih ⊢
    rw [List.map_cons]
    unfold wpQuiet
    rw [ih]
    have e := lateOp_wanted q l o a
    unfold late at e
    rw [e, lateOp_quiet, lateOp_dst]
theorem late_skip (q p : Nat) : ∀ (r : List Oper) (k : Nat), skipAt p k (late q r) = late q (skipAt p k r)
  | [], k => rfl
  | o :: r, k => by
    have ih := late_skip q p r (k + 1)
    unfold late at ih ⊢
    rw [List.map_cons]
    unfold skipAt
    rw [ih]
    split <;> rfl

/-! The operation itself: it takes a part of an answer. -/

def takes (o : Oper) : Bool := match o.op with | .extract .. => o.guard.isNone | _ => false
theorem takes_yields {P : Program} {ops : Array Oper} {Q : Exit → Act → World → Prop} {q : Nat} {o : Oper} {a : Act} {w : World} {K : Act → World → Prop} (ho : ops[q]? = some o) (ht : takes o = true) (h : wpOp P ops Q q K a w) :
    ∃ v, Yields P ops o v a ∧ K (a.put o.dst v) w := by
  obtain ⟨dst, op, ty, pos, after, guard⟩ := o
  unfold takes at ht
  cases op <;> simp only [Bool.false_eq_true] at ht
  rename_i x k
  have hg : guard = none := by cases guard with | none => rfl | some g => simp at ht
  subst hg
  unfold wpOp at h
  simp only [ho] at h
  rw [if_pos (by simp [Region.wanted])] at h
  rcases h with h | ⟨h, -⟩
  · unfold Oper.wp at h
    simp only [execOp] at h
    cases hx : a.eval x with
    | tuple vs =>
      rw [hx] at h
      cases hv : vs[k]? with
      | none =>
        simp only [Instr.extract, hv] at h
        exact h.elim
      | some v =>
        simp only [Instr.extract, hv] at h
        refine ⟨v, .inl ⟨by simp [Region.wanted], fun w => ?_⟩, h⟩
        simp only [execOp, Instr.extract, hx, hv]
        rfl
    | _ =>
      rw [hx] at h
      exact h.elim
  · unfold Oper.asks at h
    simp only [execOp] at h
    exfalso
    cases hx : a.eval x with
    | tuple vs =>
      rw [hx] at h
      cases hv : vs[k]? with
      | none =>
        simp only [Instr.extract, hv] at h
        exact absurd h.1 (by change ¬ noRoomEvent ∈ (#[] : Array Event); simp)
      | some v =>
        simp only [Instr.extract, hv] at h
        exact absurd h.1 (by change ¬ noRoomEvent ∈ (#[] : Array Event); simp)
    | _ =>
      rw [hx] at h
      exact absurd h.1 (by change ¬ noRoomEvent ∈ (#[] : Array Event); simp)

/-! Any order of the region is one of the region that waits, but for that operation's place. -/

/-- The check: the operation takes a part, waits for no more than what those wait for that are made to wait for it, and stands apart from all that does not wait for it. -/
def lateB (q : Nat) (l : List Oper) : Bool :=
  match l[q]? with
  | none => false
  | some x => takes x && (!x.after.any (fun e => e.on == q) && (Region.noSelect l.toArray && (List.range l.length).all fun j => match l[j]? with
      | none => true
      | some o => (!o.after.any (fun e => e.on == q) || o.after.any (fun e => Region.binds .any e && e.on == q) || x.after.all (fun e => !Region.binds .any e || o.after.any (fun e' => Region.binds .any e' && e'.on == e.on))) &&
          (j == q || (o.after.any (fun e => Region.binds .any e && e.on == q) || x.apart l.toArray o || x.after.any (fun e => Region.binds .any e && e.on == j)))))
structure LateAt (q : Nat) (l : List Oper) (x : Oper) : Prop where
  at_ : l.toArray[q]? = some x
  takes_ : takes x = true
  self : ∀ e ∈ x.after, e.on ≠ q
  sel : Region.noSelect l.toArray = true
  behind : ∀ (j : Nat) (o : Oper), l.toArray[j]? = some o → (∃ e ∈ o.after, e.on = q) → (∀ e ∈ o.after, Region.binds .any e = true → e.on ≠ q) → ∀ e ∈ x.after, Region.binds .any e = true → ∃ e' ∈ o.after, Region.binds .any e' = true ∧ e'.on = e.on
  free : ∀ (j : Nat) (o : Oper), l.toArray[j]? = some o → j ≠ q → (∀ e ∈ o.after, Region.binds .any e = true → e.on ≠ q) → x.apart l.toArray o = true ∨ ∃ e ∈ x.after, Region.binds .any e = true ∧ e.on = j
theorem lateB_spec {q : Nat} {l : List Oper} (h : lateB q l = true) : ∃ x, LateAt q l x := by
  unfold lateB at h
  cases hx : l[q]? with
  | none => rw [hx] at h; cases h
  | some x =>
    rw [hx] at h
    simp only [Bool.and_eq_true, Bool.not_eq_true', List.all_eq_true, List.mem_range] at h
    obtain ⟨h1, h2, h3, h4⟩ := h
    refine ⟨x, ⟨by simpa using hx, h1, fun e he hq => ?_, h3, fun j o ho hq hn => ?_, fun j o ho hj hn => ?_⟩⟩
    · have : x.after.any (fun e => e.on == q) = true := Array.any_eq_true'.2 ⟨e, he, by simpa using hq⟩
      rw [this] at h2
      cases h2
    · have hj : j < l.length := by have := (Array.getElem?_eq_some_iff.1 ho).1; simpa using this
      have h5 := h4 j hj
      rw [show l[j]? = some o by simpa using ho] at h5
      simp only [Bool.and_eq_true, Bool.or_eq_true, Bool.not_eq_true'] at h5
      rcases h5.1 with (h6 | h6) | h6
      · obtain ⟨e, he, heq⟩ := hq
        have : o.after.any (fun e => e.on == q) = true := Array.any_eq_true'.2 ⟨e, he, by simpa using heq⟩
        rw [this] at h6
        cases h6
      · obtain ⟨e, he, hb⟩ := Array.any_eq_true'.1 h6
        simp only [Bool.and_eq_true, beq_iff_eq] at hb
        exact absurd hb.2 (hn e he hb.1)
      · intro e he hb
        have h7 := Array.all_eq_true_iff_forall_mem.1 h6 e he
        rw [hb] at h7
        simp only [Bool.not_true, Bool.false_or] at h7
        obtain ⟨e', he', hb'⟩ := Array.any_eq_true'.1 h7
        simp only [Bool.and_eq_true, beq_iff_eq] at hb'
        exact ⟨e', he', hb'⟩
    · have hj' : j < l.length := by have := (Array.getElem?_eq_some_iff.1 ho).1; simpa using this
      have h5 := h4 j hj'
      rw [show l[j]? = some o by simpa using ho] at h5
      simp only [Bool.and_eq_true, Bool.or_eq_true, beq_iff_eq] at h5
      rcases h5.2 with h6 | (h6 | h6) | h6
      · exact absurd h6 hj
      · obtain ⟨e, he, hb⟩ := Array.any_eq_true'.1 h6
        simp only [Bool.and_eq_true, beq_iff_eq] at hb
        exact absurd hb.2 (hn e he hb.1)
      · exact .inl h6
      · obtain ⟨e, he, hb⟩ := Array.any_eq_true'.1 h6
        simp only [Bool.and_eq_true, beq_iff_eq] at hb
        exact .inr ⟨e, he, hb⟩

section
variable {P : Program} {Q : Exit → Act → World → Prop} {q : Nat} {l : List Oper} {x : Oper}
theorem late_after {o : Oper} {e : Edge} : e ∈ (lateOp q o).after ↔ e ∈ o.after ∨ (e = ⟨q, .phase⟩ ∧ ∃ e' ∈ o.after, e'.on = q) := by
  unfold lateOp
  split
  · rename_i h
    obtain ⟨e', he', hb⟩ := Array.any_eq_true'.1 h
    simp only [Array.mem_push]
    constructor
    · rintro (h1 | h1)
      · exact .inl h1
      · exact .inr ⟨h1, e', he', by simpa using hb⟩
    · rintro (h1 | ⟨h1, -⟩)
      · exact .inl h1
      · exact .inr h1
  · rename_i h
    constructor
    · exact .inl
    · rintro (h1 | ⟨-, e', he', heq⟩)
      · exact h1
      · exact absurd (Array.any_eq_true'.2 ⟨e', he', by simpa using heq⟩) h
theorem late_ready {m : Array Bool} {i : Nat} (h : i ∈ Region.ready .any (late q l).toArray m) : i ∈ Region.ready .any l.toArray m := by
  obtain ⟨h1, o, ho, h2⟩ := mem_ready.1 h
  rw [late_get] at ho
  cases hl : l.toArray[i]? with
  | none => rw [hl] at ho; cases ho
  | some o' =>
    rw [hl] at ho
    cases ho
    exact mem_ready.2 ⟨h1, o', hl, fun e he hb => h2 e (late_after.2 (.inl he)) hb⟩
/-- What is ready, and is not where it waits, waits for the operation, which is ready. -/
theorem late_split (H : LateAt q l x) {m : Array Bool} {i : Nat} (h : i ∈ Region.ready .any l.toArray m) : i ∈ Region.ready .any (late q l).toArray m ∨ (m.size = l.length → q ∈ Region.ready .any (late q l).toArray m) := by
  obtain ⟨h1, o, ho, h2⟩ := mem_ready.1 h
  by_cases hq : m.getD q false = true
  · left
    refine mem_ready.2 ⟨h1, lateOp q o, by rw [late_get, ho]; rfl, fun e he hb => ?_⟩
    rcases late_after.1 he with h3 | ⟨rfl, -⟩
    · exact h2 e h3 hb
    · exact hq
  · by_cases hw : (∃ e ∈ o.after, e.on = q) ∧ (∀ e ∈ o.after, Region.binds .any e = true → e.on ≠ q)
    · right
      intro hs
      have hx := H.at_
      have hql : q < l.length := by have := (Array.getElem?_eq_some_iff.1 hx).1; simpa using this
      refine mem_ready.2 ⟨?_, lateOp q x, by rw [late_get, hx]; rfl, fun e he hb => ?_⟩
      · refine getD_in (by omega) ?_
        cases hm : m.getD q false
        · rfl
        · exact absurd hm hq
      · rcases late_after.1 he with h3 | ⟨rfl, e', he', heq⟩
        · obtain ⟨e', he', hb', heq⟩ := H.behind i o ho hw.1 hw.2 e h3 hb
          rw [← heq]
          exact h2 e' he' hb'
        · exact absurd heq (H.self e' he')
    · left
      refine mem_ready.2 ⟨h1, lateOp q o, by rw [late_get, ho]; rfl, fun e he hb => ?_⟩
      rcases late_after.1 he with h3 | ⟨rfl, h4⟩
      · exact h2 e h3 hb
      · exfalso
        refine hw ⟨h4, fun e he hb heq => hq ?_⟩
        rw [← heq]
        exact h2 e he hb
theorem late_any (H : LateAt q l x) (hQ : ∀ d v c a w, Q (.panic c) (a.put (some d) v) w → Q (.panic c) a w) :
    ∀ (k : Nat) (m : Array Bool) (a : Act) (w : World), m.size = l.length → wpAny P .any (late q l).toArray Q k m a w → wpAny P .any l.toArray Q k m a w
  | 0, m, a, w, hs, h => by
    refine ⟨?_, h.2⟩
    apply List.eq_nil_iff_forall_not_mem.2
    intro i hi
    rcases late_split H hi with h1 | h1
    · rw [h.1] at h1; cases h1
    · have h1 := h1 hs
      rw [h.1] at h1; cases h1
  | k + 1, m, a, w, hs, h => by
    refine ⟨fun h0 => h.1 ?_, fun i hi => ?_⟩
    · apply List.eq_nil_iff_forall_not_mem.2
      intro i hi
      have := late_ready hi
      rw [h0] at this
      cases this
    · rcases late_split H hi with h1 | h1
      · have h2 := h.2 i h1
        rw [late_wpOp] at h2
        exact wpOp_mono (fun a' w' h3 => late_any H hQ k _ a' w' (by simpa using hs) h3) h2
      · have hr := h1 hs
        have h2 := h.2 q hr
        rw [late_wpOp] at h2
        obtain ⟨v, hy, h3⟩ := takes_yields H.at_ H.takes_ h2
        have h4 := late_any H hQ k _ _ w (by simpa using hs) h3
        have hrq := late_ready hr
        have h5 := wpAny_first (P := P) (Q := Q) (md := .any) H.at_ (Region.noSelect_spec H.sel) (fun c a w h => by
          cases hd : x.dst with
          | none => rw [hd] at h; exact h
          | some d => rw [hd] at h; exact hQ d v c a w h) k m a w (fun j oj hj hne hun hno => by
            rcases H.free j oj hj hne hno with h6 | ⟨e, he, hb, heq⟩
            · exact h6
            · exfalso
              obtain ⟨-, o, ho, h7⟩ := mem_ready.1 hrq
              rw [H.at_] at ho
              cases ho
              have := h7 e he hb
              rw [heq, getD_both hun] at this
              cases this) hrq hy h4
        exact h5.2 i hi
end

/-- Operations that may come late, one behind the other. -/
def lates : List Nat → List Oper → List Oper
  | [], l => l
  | q :: r, l => lates r (late q l)
def latesB : List Nat → List Oper → Bool
  | [], _ => true
  | q :: r, l => lateB q l && latesB r (late q l)
section
variable {P : Program} {Q : Exit → Act → World → Prop}
theorem lates_length : ∀ (qs : List Nat) (l : List Oper), (lates qs l).length = l.length
  | [], l => rfl
  | q :: r, l => by rw [lates, lates_length r]; simp [late]
theorem lates_any (hQ : ∀ d v c a w, Q (.panic c) (a.put (some d) v) w → Q (.panic c) a w) : ∀ (qs : List Nat) (l : List Oper), latesB qs l = true → ∀ (k : Nat) (m : Array Bool) (a : Act) (w : World), m.size = l.length →
    wpAny P .any (lates qs l).toArray Q k m a w → wpAny P .any l.toArray Q k m a w
  | [], l, _, k, m, a, w, _, h => h
  | q :: r, l, hB, k, m, a, w, hs, h => by
    rw [latesB, Bool.and_eq_true] at hB
    obtain ⟨x, H⟩ := lateB_spec hB.1
    exact late_any H hQ k m a w hs (lates_any hQ r (late q l) hB.2 k m a w (by simpa [late] using hs) h)
theorem lates_wpList : ∀ (qs : List Nat) (l r : List Oper) (a : Act) (w : World), wpList P (lates qs l).toArray Q (lates qs r) a w = wpList P l.toArray Q r a w
  | [], l, r, a, w => rfl
  | q :: s, l, r, a, w => by rw [lates, lates, lates_wpList s, late_wpList]
theorem lates_wpQuiet {C : World → Prop} {K : Act → Prop} : ∀ (qs : List Nat) (l r : List Oper) (a : Act), wpQuiet P (lates qs l).toArray C K (lates qs r) a = wpQuiet P l.toArray C K r a
  | [], l, r, a => rfl
  | q :: s, l, r, a => by rw [lates, lates, lates_wpQuiet s, late_wpQuiet]
theorem lates_skip (p : Nat) : ∀ (qs : List Nat) (r : List Oper) (k : Nat), skipAt p k (lates qs r) = lates qs (skipAt p k r)
  | [], r, k => rfl
  | q :: s, r, k => by rw [lates, lates, lates_skip p s, late_skip]
theorem lates_take (n : Nat) : ∀ (qs : List Nat) (r : List Oper), (lates qs r).take n = lates qs (r.take n)
  | [], r => rfl
  | q :: s, r => by rw [lates, lates, lates_take n s]; simp [late]
theorem lates_drop (n : Nat) : ∀ (qs : List Nat) (r : List Oper), (lates qs r).drop n = lates qs (r.drop n)
  | [], r => rfl
  | q :: s, r => by rw [lates, lates, lates_drop n s]; simp [late]
theorem lates_get (j : Nat) : ∀ (qs : List Nat) (l : List Oper) (op : Oper), l[j]? = some op → ∃ A, (lates qs l)[j]? = some { op with after := A }
  | [], l, op, h => ⟨op.after, h⟩
  | q :: s, l, op, h => by
    obtain ⟨A, hA⟩ := lateOp_same q op
    obtain ⟨B, hB⟩ := lates_get j s (late q l) (lateOp q op) (by unfold late; simp [h])
    exact ⟨B, by rw [lates, hB, hA]⟩
end

/-- A region with one block laid in its midst, its tail from n on, some parts of an answer taken late. -/
theorem wp_heap_late {P : Program} {id : Nat} {Q : Exit → Act → World → Prop} {a : Act} {w W : World} {l : List Oper} (n p d : Nat) (qs : List Nat) {z : Obj} {op : Oper} (hm : P.follows .mixedOrders = true) (hL : latesB qs l = true)
    (hB : heapB (lates qs l) n p d = true) (hQ : ∀ d v c a w, Q (.panic c) (a.put (some d) v) w → Q (.panic c) a w)
    (hW : MoreX w zeroR { W with drawn := W.drawn + 1 }) (hop : l[p]? = some op) (hp : p < n) (hg : op.guard = none) (hz : ∀ (a : Act) (w' : World), (execOp a.eval op).run P w' = .ok (.value (.pointer (some ⟨w'.heap.size, 0, none⟩))) (w'.alloc z))
    (h : ∀ x : Rest, wpQuiet P l.toArray (fun w' => ∃ r, w' = more w (x.plus r)) (fun a' => ∀ r1 r2, wpList P l.toArray Q (l.drop n) (a'.put (some d) (.pointer (some ⟨w.heap.size + r1.len, 0, none⟩))) (more ((more w r1).alloc z) r2)) (skipAt p 0 (l.take n)) a) :
    (Code.region id l.toArray true).wp P Q a W := by
  refine wp_region_any hm (lates_any hQ qs l hL _ _ _ _ (by simp) ?_)
  have hlen := lates_length qs l
  obtain ⟨A, hop'⟩ := lates_get p qs l op hop
  have hz' : ∀ (a : Act) (w' : World), (execOp a.eval { op with after := A }).run P w' = .ok (.value (.pointer (some ⟨w'.heap.size, 0, none⟩))) (w'.alloc z) := fun a w' => by
    rw [sameish_op (P := P) ⟨A, rfl⟩ a.eval]
    exact hz a w'
  have h' : ∀ x : Rest, wpQuiet P (lates qs l).toArray (fun w' => ∃ r, w' = more w (x.plus r)) (fun a' => ∀ r1 r2, wpList P (lates qs l).toArray Q ((lates qs l).drop n) (a'.put (some d) (.pointer (some ⟨w.heap.size + r1.len, 0, none⟩))) (more ((more w r1).alloc z) r2)) (skipAt p 0 ((lates qs l).take n)) a := fun x => by
    rw [lates_take, lates_skip, lates_wpQuiet, lates_drop]
    simp only [lates_wpList]
    exact h x
  have hsz : l.toArray.size = (lates qs l).toArray.size := by simp [hlen]
  rw [hsz]
  generalize lates qs l = L at *
  simp only [heapB, Bool.and_eq_true, decide_eq_true_eq] at hB
  obtain ⟨⟨hsel, hn⟩, hok⟩ := hB
  have H : ∀ j o, L.toArray[j]? = some o → HeapAt L.toArray n p d j o := fun j o ho => by
    have := heapOk_spec (ops := L.toArray) rfl L 0 _ hok (fun i b hi => by
      rw [bits_eq, Array.getElem?_toList] at hi
      simp [Array.getD_eq_getD_getElem?, hi]) j o (by simpa using ho)
    rwa [Nat.zero_add] at this
  have hps : p < L.length := by omega
  have hrep : ∀ j, j < L.toArray.size → (Array.replicate L.toArray.size false).getD j true = false := fun j hj => getD_in (by simpa using hj) (getD_replicate_false _ _)
  have hF : FirstP L.toArray.size 0 p ((Array.replicate L.toArray.size false).setIfInBounds p true) := by
    refine ⟨by simp, fun j hj => by omega, fun hp' => ?_, fun j _ hj hjp => ?_⟩
    · have hp'' : p < L.length := hps
      simp [hp'']
    · rw [getD_set_ne true (Ne.symm hjp)]
      exact hrep j hj
  have hall := heap_any (P := P) (Q := Q) (w := w) (z := z) (op := { op with after := A }) (tl := L.drop n) H hp hsel (by simpa using hop') hg hz' (fun j => by simp [List.getElem?_drop]) (by simp; omega) (skipAt p 0 (L.take n)).length (Array.replicate L.toArray.size false) a _
    (fun j oj _ hl => by rw [getD_replicate_false] at hl; cases hl) (hrep p (by simpa using hps)) (fun x => ?_) hW
  · rw [skip_take hp hn] at hall
    have e : n + (L.drop n).length = L.toArray.size := by simp; omega
    rwa [e] at hall
  · exact headQ_lexB H (.inl hp) (by simpa using hn) hsel (L.take n) 0 _ a (fun j hj => by
      have hj' : j < n := by simp at hj; omega
      simp [hj']) (by simp; omega) hF (h' x)

theorem wp_more_late {P : Program} {id : Nat} {Q : Exit → Act → World → Prop} {a : Act} {w : World} {l : List Oper} (n p d : Nat) (qs : List Nat) {z : Obj} {op : Oper} (hm : P.follows .mixedOrders = true) (hL : latesB qs l = true)
    (hB : heapB (lates qs l) n p d = true) (hQ : ∀ d v c a w, Q (.panic c) (a.put (some d) v) w → Q (.panic c) a w)
    (hop : l[p]? = some op) (hp : p < n) (hg : op.guard = none) (hz : ∀ (a : Act) (w' : World), (execOp a.eval op).run P w' = .ok (.value (.pointer (some ⟨w'.heap.size, 0, none⟩))) (w'.alloc z))
    (h : ∀ x : Rest, wpQuiet P l.toArray (fun w' => ∃ r, w' = more w (x.plus r)) (fun a' => ∀ r1 r2, wpList P l.toArray Q (l.drop n) (a'.put (some d) (.pointer (some ⟨w.heap.size + r1.len, 0, none⟩))) (more ((more w r1).alloc z) r2)) (skipAt p 0 (l.take n)) a) :
    (Code.region id l.toArray true).wp P Q a w :=
  wp_heap_late n p d qs hm hL hB hQ ⟨⟨#[], w.drawn + 1⟩, by unfold more Rest.plus zeroR; simp⟩ hop hp hg hz h
theorem wp_more_late_m {P : Program} {id : Nat} {Q : Exit → Act → World → Prop} {a : Act} {w : World} {s : Rest} {l : List Oper} (n p d : Nat) (qs : List Nat) {z : Obj} {op : Oper} (hm : P.follows .mixedOrders = true) (hL : latesB qs l = true)
    (hB : heapB (lates qs l) n p d = true) (hQ : ∀ d v c a w, Q (.panic c) (a.put (some d) v) w → Q (.panic c) a w)
    (hop : l[p]? = some op) (hp : p < n) (hg : op.guard = none) (hz : ∀ (a : Act) (w' : World), (execOp a.eval op).run P w' = .ok (.value (.pointer (some ⟨w'.heap.size, 0, none⟩))) (w'.alloc z))
    (h : ∀ x : Rest, wpQuiet P l.toArray (fun w' => ∃ r, w' = more w (x.plus r)) (fun a' => ∀ r1 r2, wpList P l.toArray Q (l.drop n) (a'.put (some d) (.pointer (some ⟨w.heap.size + r1.len, 0, none⟩))) (more ((more w r1).alloc z) r2)) (skipAt p 0 (l.take n)) a) :
    (Code.region id l.toArray true).wp P Q a (more w s) :=
  wp_heap_late n p d qs hm hL hB hQ ⟨s.draw 1, by rw [zero_plus, ← more_drew]; rfl⟩ hop hp hg hz h

end Go.Proofs.YtolfobgpgmfnpaaDoor

