/-
  Regions that draw their order, some of whose operations answer what is not one value in every order (a slice that is laid, a callee's new slice): of such a slot a fact is known that more blocks don't turn; whatever reads it is shown for every value of which the fact holds.
-/
import Derived.Test.YtolfobgpgmfnpaaDoorGa
namespace Go.Proofs.YtolfobgpgmfnpaaDoor
set_option linter.unusedVariables false
open Go.RowKit

/-- What an operation answers: one value, or any of which V holds in the world behind it. -/
inductive Res where
  | val (v : Value)
  | loose (V : Value → World → Prop)
abbrev FL := List (Nat × (Value → World → Prop))
/-- K, whatever the loose slots hold. -/
def allFits (w : World) : FL → (Act → Prop) → Act → Prop
  | [], K, a => K a
  | (d, V) :: F, K, a => ∀ u, V u w → allFits w F K (a.put (some d) u)
def looseUpon (P : Program) (w : World) (V : Value → World → Prop) : Result Next → Prop
  | .ok (.value u) w' => More w w' ∧ V u w'
  | .ok .skip w' => More w w' ∧ V undef w'
  | .ok (.enter f args) w' => w' = w ∧ Calls P f args w (fun e w'' => ∃ u, e = .returned u ∧ More w w'' ∧ V u w'')
  | _ => False
def looseAt (P : Program) (o : Oper) (a : Act) (w : World) (V : Value → World → Prop) : Prop := looseUpon P w V ((execOp a.eval o).run P w)
def looked (ops : Array Oper) (o : Oper) (F : FL) : FL := F.filter fun p => (o.looksAt ops).contains p.1
def StepOK (P : Program) (ops : Array Oper) (w0 : World) (o : Oper) (a : Act) (F : FL) : Res → Prop
  | .val v => ∀ r, allFits (more w0 r) (looked ops o F) (fun a' => if Region.wanted o (yielded ops a'.tmps) then looseAt P o a' (more w0 r) (fun u _ => u = v) else v = undef) a
  | .loose V => (∃ d, o.dst = some d ∧ d < a.tmps.size) ∧ (∀ v w w', More w w' → V v w → V v w') ∧
    ∀ r, allFits (more w0 r) (looked ops o F) (fun a' => Region.wanted o (yielded ops a'.tmps) = true ∧ looseAt P o a' (more w0 r) V) a
def nextA (o : Oper) (a : Act) : Res → Act
  | .val v => a.put o.dst v
  | .loose _ => a
def nextF (o : Oper) (F : FL) : Res → FL
  | .val _ => F
  | .loose V => match o.dst with
    | some d => (d, V) :: F
    | none => F
/-- The walk in the text's order. -/
def wpLoose (P : Program) (ops : Array Oper) (w0 : World) (Q : Act → World → Prop) : List Oper → FL → Act → Prop
  | [], F, a => ∀ r, allFits (more w0 r) F (fun a' => Q a' (more w0 r)) a
  | o :: rest, F, a => ∃ res, StepOK P ops w0 o a F res ∧ wpLoose P ops w0 Q rest (nextF o F res) (nextA o a res)

def runA : List Oper → List Res → Act → Act
  | o :: l, r :: rs, a => runA l rs (nextA o a r)
  | _, _, a => a
def runF : List Oper → List Res → FL → FL
  | o :: l, r :: rs, F => runF l rs (nextF o F r)
  | _, _, F => F

section
variable {P : Program} {ops : Array Oper} {w0 : World}

theorem loose_extract {Q : Act → World → Prop} : ∀ (l : List Oper) (F : FL) (a : Act), wpLoose P ops w0 Q l F a → ∃ rs : List Res, rs.length = l.length ∧
    (∀ i o res, l[i]? = some o → rs[i]? = some res → StepOK P ops w0 o (runA (l.take i) (rs.take i) a) (runF (l.take i) (rs.take i) F) res) ∧
    ∀ r, allFits (more w0 r) (runF l rs F) (fun a' => Q a' (more w0 r)) (runA l rs a)
  | [], F, a, h => ⟨[], rfl, fun i o res hi => by simp at hi, h⟩
  | o :: l, F, a, ⟨res, h1, h2⟩ => by
    obtain ⟨rs, hl, hs, hf⟩ := loose_extract l _ _ h2
    refine ⟨res :: rs, by simp [hl], fun i o' res' hi hr => ?_, hf⟩
    cases i with
    | zero =>
      simp only [List.getElem?_cons_zero, Option.some.injEq] at hi hr
      subst hi hr
      exact h1
    | succ i => exact hs i o' res' (by simpa using hi) (by simpa using hr)

theorem put_size (a : Act) (d : Option Tmp) (v : Value) : (a.put d v).tmps.size = a.tmps.size := by
  cases d <;> simp [Act.put]
theorem put_defs (a : Act) (d : Option Tmp) (v : Value) : (a.put d v).defers = a.defers := by
  cases d <;> rfl
theorem put_at (a : Act) (d t : Nat) (v : Value) : (a.put (some d) v).tmps[t]? = if d = t then (if d < a.tmps.size then some v else none) else a.tmps[t]? := by
  simp only [Act.put]
  rw [Array.getElem?_setIfInBounds]
theorem put_off (a : Act) (d : Option Tmp) (t : Nat) (v : Value) (h : d ≠ some t) : (a.put d v).tmps[t]? = a.tmps[t]? := by
  cases d with
  | none => rfl
  | some d => rw [put_at, if_neg (fun e => h (by rw [e]))]
theorem runA_size : ∀ (l : List Oper) (rs : List Res) (a : Act), (runA l rs a).tmps.size = a.tmps.size
  | [], _, _ => rfl
  | _ :: _, [], _ => rfl
  | o :: l, r :: rs, a => by
    rw [runA, runA_size l rs]
    cases r with
    | val v => exact put_size _ _ _
    | loose V => rfl
theorem runA_defs : ∀ (l : List Oper) (rs : List Res) (a : Act), (runA l rs a).defers = a.defers
  | [], _, _ => rfl
  | _ :: _, [], _ => rfl
  | o :: l, r :: rs, a => by
    rw [runA, runA_defs l rs]
    cases r with
    | val v => exact put_defs _ _ _
    | loose V => rfl
theorem runA_keep {d : Nat} : ∀ (l : List Oper) (rs : List Res) (a : Act), (∀ (i : Nat) (o : Oper) (v : Value), l[i]? = some o → rs[i]? = some (.val v) → o.dst ≠ some d) → (runA l rs a).tmps[d]? = a.tmps[d]?
  | [], _, _, _ => rfl
  | _ :: _, [], _, _ => rfl
  | o :: l, r :: rs, a, h => by
    rw [runA, runA_keep l rs _ fun i o' v hi hr => h (i + 1) o' v (by simpa using hi) (by simpa using hr)]
    cases r with
    | val v => exact put_off _ _ _ _ (h 0 o v rfl rfl)
    | loose V => rfl
theorem runF_mem {p : Nat × (Value → World → Prop)} : ∀ (l : List Oper) (rs : List Res) (F : FL), p ∈ runF l rs F → p ∈ F ∨ ∃ (i : Nat) (o : Oper), l[i]? = some o ∧ rs[i]? = some (.loose p.2) ∧ o.dst = some p.1
  | [], _, _, h => .inl h
  | _ :: _, [], _, h => .inl h
  | o :: l, r :: rs, F, h => by
    rcases runF_mem l rs _ h with h1 | ⟨i, o', hi, hr, hd⟩
    · cases r with
      | val v => exact .inl h1
      | loose V =>
        unfold nextF at h1
        cases hd : o.dst with
        | none => rw [hd] at h1; exact .inl h1
        | some d =>
          rw [hd] at h1
          rcases List.mem_cons.1 h1 with h2 | h2
          · subst h2
            exact .inr ⟨0, o, rfl, rfl, hd⟩
          · exact .inl h2
    · exact .inr ⟨i + 1, o', by simpa using hi, by simpa using hr, hd⟩
theorem runF_sub {p : Nat × (Value → World → Prop)} : ∀ (l : List Oper) (rs : List Res) (F : FL), p ∈ F → p ∈ runF l rs F
  | [], _, _, h => h
  | _ :: _, [], _, h => h
  | o :: l, r :: rs, F, h => by
    refine runF_sub l rs _ ?_
    cases r with
    | val v => exact h
    | loose V =>
      unfold nextF
      cases o.dst with
      | none => exact h
      | some d => exact List.mem_cons_of_mem _ h
theorem runF_has {d : Nat} {V : Value → World → Prop} : ∀ (l : List Oper) (rs : List Res) (F : FL) (i : Nat) (o : Oper), l[i]? = some o → rs[i]? = some (.loose V) → o.dst = some d → (d, V) ∈ runF l rs F
  | [], _, _, i, o, hi, _, _ => by simp at hi
  | _ :: _, [], _, i, o, _, hr, _ => by simp at hr
  | o :: l, r :: rs, F, 0, o', hi, hr, hd => by
    simp only [List.getElem?_cons_zero, Option.some.injEq] at hi hr
    subst hi hr
    refine runF_sub l rs _ ?_
    unfold nextF
    rw [hd]
    exact List.mem_cons_self
  | o :: l, r :: rs, F, i + 1, o', hi, hr, hd => runF_has l rs _ i o' (by simpa using hi) (by simpa using hr) hd

theorem allFits_act {w : World} {A : Act} {K : Act → Prop} : ∀ (F : FL) (a : Act), (∀ p ∈ F, ∃ u, A.tmps[p.1]? = some u ∧ p.2 u w) → a.tmps.size = A.tmps.size → a.defers = A.defers → allFits w F K a →
    ∃ a', K a' ∧ a'.tmps.size = A.tmps.size ∧ a'.defers = A.defers ∧ ∀ t, (a.tmps[t]? = A.tmps[t]? ∨ ∃ V, (t, V) ∈ F) → a'.tmps[t]? = A.tmps[t]?
  | [], a, _, hs, hd, h => ⟨a, h, hs, hd, fun t ht => ht.elim id fun ⟨V, hV⟩ => by cases hV⟩
  | (d, V0) :: F, a, hF, hs, hd, h => by
    obtain ⟨u, hu, hV⟩ := hF (d, V0) List.mem_cons_self
    have hlt : d < a.tmps.size := by
      rw [hs]
      exact (Array.getElem?_eq_some_iff.1 hu).1
    obtain ⟨a', h1, h2, h3, h4⟩ := allFits_act F (a.put (some d) u) (fun p hp => hF p (List.mem_cons_of_mem _ hp)) (by rw [put_size, hs]) (by rw [put_defs, hd]) (h u hV)
    refine ⟨a', h1, h2, h3, fun t ht => h4 t ?_⟩
    by_cases hdt : d = t
    · subst hdt
      left
      rw [put_at, if_pos rfl, if_pos hlt]
      exact hu.symm
    · rw [put_at, if_neg hdt]
      rcases ht with ht | ⟨V, hV⟩
      · exact .inl ht
      · rcases List.mem_cons.1 hV with h5 | h5
        · simp only [Prod.mk.injEq] at h5
          exact absurd h5.1.symm hdt
        · exact .inr ⟨V, h5⟩

theorem exec_agree {a A : Act} (o : Oper) (hs : ∀ cs b, o.op ≠ .select cs b) (h : ∀ t ∈ o.looksAt ops, a.tmps[t]? = A.tmps[t]?) : execOp a.eval o = execOp A.eval o :=
  execOp_congr o hs fun x hx => by
    cases x with
    | tmp t =>
      have ht : t ∈ o.looksAt ops := List.mem_append_left _ (List.mem_filterMap.2 ⟨.tmp t, by simpa using hx, rfl⟩)
      simp only [Act.eval, Array.getD_eq_getD_getElem?, h t ht]
    | _ => rfl
theorem wanted_agree {a A : Act} (o : Oper) (h : ∀ t ∈ o.looksAt ops, a.tmps[t]? = A.tmps[t]?) : Region.wanted o (yielded ops a.tmps) = Region.wanted o (yielded ops A.tmps) := by
  unfold Region.wanted
  cases hg : o.guard with
  | none => rfl
  | some gw =>
    obtain ⟨g, want⟩ := gw
    have hy : yielded ops a.tmps g = yielded ops A.tmps g := by
      unfold yielded
      cases ht : (ops[g]?).bind (·.dst) with
      | none => rfl
      | some t =>
        have := h t (by simp [Oper.looksAt, hg, ht])
        simp only [Option.bind_some, this]
    simp only [hy]
theorem wp_of_loose {o : Oper} {A : Act} {w : World} {V : Value → World → Prop} {K : Act → World → Prop} {Q : Exit → Act → World → Prop} (h : looseAt P o A w V) (hk : ∀ u w', More w w' → V u w' → K (A.put o.dst u) w') : o.wp P A w K Q := by
  unfold looseAt at h
  unfold Oper.wp
  generalize (execOp A.eval o).run P w = r at *
  cases r with
  | ok n w' =>
    cases n <;> simp only [looseUpon] at h <;> simp only [Oper.upon]
    case value u => exact hk _ _ h.1 h.2
    case skip => exact hk _ _ h.1 h.2
    case enter f args =>
      obtain ⟨rfl, hc⟩ := h
      exact hc.mono fun e w'' ⟨u, he, hm, hv⟩ => by subst he; exact hk _ _ hm hv
  | halt x w' => simp only [looseUpon] at h

theorem countP_less {p q : Nat → Bool} {i : Nat} : ∀ l : List Nat, (∀ j, q j = true → p j = true) → i ∈ l → p i = true → q i = false → l.countP q < l.countP p
  | [], _, hi, _, _ => by cases hi
  | x :: l, h, hi, hp, hq => by
    have hle : l.countP q ≤ l.countP p := List.countP_mono_left fun j _ hj => h j hj
    by_cases hx : i = x
    · subst hx
      rw [List.countP_cons_of_neg (by rw [hq]; simp), List.countP_cons_of_pos hp]
      omega
    · have := countP_less l h (by rcases List.mem_cons.1 hi with h1 | h1; exact absurd h1 hx; exact h1) hp hq
      cases hqx : q x
      · rw [List.countP_cons_of_neg (by rw [hqx]; simp)]
        cases hpx : p x
        · rw [List.countP_cons_of_neg (by rw [hpx]; simp)]; exact this
        · rw [List.countP_cons_of_pos hpx]; omega
      · rw [List.countP_cons_of_pos hqx, List.countP_cons_of_pos (h x hqx)]
        omega

/-- Each slot is written by one operation. -/
def onceB : List Oper → Bool
  | [] => true
  | o :: r => (match o.dst with
    | some d => r.all fun x => x.dst != some d
    | none => true) && onceB r
theorem onceB_spec {d : Nat} : ∀ (l : List Oper), onceB l = true → ∀ (i j : Nat) (oi oj : Oper), l[i]? = some oi → l[j]? = some oj → oi.dst = some d → oj.dst = some d → i = j
  | [], _, i, _, _, _, hi, _, _, _ => by simp at hi
  | o :: r, h, i, j, oi, oj, hi, hj, di, dj => by
    simp only [onceB, Bool.and_eq_true] at h
    have far : ∀ (k : Nat) (x : Oper), o.dst = some d → r[k]? = some x → x.dst = some d → False := fun k x ho hk hx => by
      have h1 := h.1
      rw [ho] at h1
      have h2 := List.all_eq_true.1 h1 x (List.mem_iff_getElem?.2 ⟨k, hk⟩)
      rw [hx] at h2
      simp at h2
    cases i with
    | zero =>
      cases j with
      | zero => rfl
      | succ j =>
        simp only [List.getElem?_cons_zero, Option.some.injEq] at hi
        subst hi
        exact (far j oj di (by simpa using hj) dj).elim
    | succ i =>
      cases j with
      | zero =>
        simp only [List.getElem?_cons_zero, Option.some.injEq] at hj
        subst hj
        exact (far i oi dj (by simpa using hi) di).elim
      | succ j => rw [onceB_spec r h.2 i j oi oj (by simpa using hi) (by simpa using hj) di dj]

/-- What holds of the frame and the world when those of m have been done, in whatever order. -/
structure LInv (w0 : World) (l : List Oper) (rs : List Res) (a0 : Act) (m : Array Bool) (A : Act) (w : World) : Prop where
  more : ∃ r, w = more w0 r
  size : A.tmps.size = a0.tmps.size
  defs : A.defers = a0.defers
  val : ∀ (j : Nat) (o : Oper) (v : Value) (d : Nat), l[j]? = some o → rs[j]? = some (.val v) → o.dst = some d → m.getD j false = true → A.tmps[d]? = (runA l rs a0).tmps[d]?
  loose : ∀ (j : Nat) (o : Oper) (V : Value → World → Prop) (d : Nat), l[j]? = some o → rs[j]? = some (.loose V) → o.dst = some d → m.getD j false = true → ∃ u, A.tmps[d]? = some u ∧ V u w
  rest : ∀ d, (∀ (j : Nat) (o : Oper), l[j]? = some o → o.dst = some d → m.getD j false = false) → A.tmps[d]? = a0.tmps[d]?

theorem runA_add : ∀ (l l' : List Oper) (rs rs' : List Res) (a : Act), l.length = rs.length → runA (l ++ l') (rs ++ rs') a = runA l' rs' (runA l rs a)
  | [], l', [], rs', a, _ => rfl
  | o :: l, l', r :: rs, rs', a, h => runA_add l l' rs rs' _ (by simpa using h)
  | [], _, _ :: _, _, _, h => by simp at h
  | _ :: _, _, [], _, _, h => by simp at h
theorem runA_part {l : List Oper} {rs : List Res} (a : Act) (i : Nat) (hl : rs.length = l.length) : runA l rs a = runA (l.drop i) (rs.drop i) (runA (l.take i) (rs.take i) a) := by
  rw [← runA_add _ _ _ _ _ (by simp [hl]), List.take_append_drop, List.take_append_drop]

/-- What the i-th operation reads is there, as the text's order has it, or loose. -/
theorem agree_at {l : List Oper} {rs : List Res} {a0 A : Act} {w : World} {m : Array Bool} (ha : ops = l.toArray) (hl : rs.length = l.length) (hB : allOk ops l 0 l (bits l) = true) (hN : onceB l = true)
    (inv : LInv w0 l rs a0 m A w) (hsh : Shut ops m) {i : Nat} {o : Oper} (hi : l[i]? = some o) (hr : i ∈ Region.ready .any ops m) :
    (∀ t ∈ o.looksAt ops, (runA (l.take i) (rs.take i) a0).tmps[t]? = A.tmps[t]? ∨ ∃ V, (t, V) ∈ looked ops o (runF (l.take i) (rs.take i) [])) ∧
    ∀ p ∈ looked ops o (runF (l.take i) (rs.take i) []), ∃ u, A.tmps[p.1]? = some u ∧ p.2 u w := by
  have hops : ∀ (j : Nat), ops[j]? = l[j]? := fun j => by rw [ha]; simp
  obtain ⟨hun, oi, hoi, hall⟩ := mem_ready.1 hr
  have hoi' : oi = o := by
    rw [hops, hi] at hoi
    exact (Option.some.inj hoi).symm
  subst hoi'
  -- an earlier one that is read has been done
  have before : ∀ (j : Nat) (oj : Oper) (t : Nat), j < i → l[j]? = some oj → oj.dst = some t → t ∈ oi.looksAt ops → m.getD j false = true := fun j oj t hji hj hd ht => by
    obtain ⟨-, b, hb, hrow⟩ := allOk_spec l 0 _ hB i oi hi
    rw [Nat.zero_add] at hrow
    rcases rowOk_spec i 0 l hrow j oj hji hj with h1 | h1
    · rw [Nat.zero_add] at h1
      have e : (Region.before ops).getD i 0 = b := by
        rw [bits_eq, ← ha] at hb
        simp only [Array.getElem?_toList] at hb
        simp [Array.getD_eq_getD_getElem?, hb]
      exact shut_bit hsh j i i rfl oi (by rw [hops]; exact hi) hall (by rw [e]; exact h1)
    · exact absurd ht ((Oper.apart_spec h1).1 t hd)
  -- a later one that is read has not
  have after : ∀ (j : Nat) (oj : Oper) (t : Nat), i ≤ j → l[j]? = some oj → oj.dst = some t → t ∈ oi.looksAt ops → m.getD j false = false := fun j oj t hij hj hd ht => by
    rcases Nat.lt_or_ge i j with hlt | hge
    · cases hmj : m.getD j false
      · rfl
      · obtain ⟨-, b, hb, hrow⟩ := allOk_spec l 0 _ hB j oj hj
        rw [Nat.zero_add] at hrow
        rcases rowOk_spec j 0 l hrow i oi hlt hi with h1 | h1
        · rw [Nat.zero_add] at h1
          have e : (Region.before ops).getD j 0 = b := by
            rw [bits_eq, ← ha] at hb
            simp only [Array.getElem?_toList] at hb
            simp [Array.getD_eq_getD_getElem?, hb]
          have h2 := shut_bit hsh i j j rfl oj (by rw [hops]; exact hj) (hsh j oj (by rw [hops]; exact hj) hmj) (by rw [e]; exact h1)
          rw [getD_both hun] at h2
          cases h2
        · exact absurd ht ((Oper.apart_spec h1).2.2 t hd)
    · obtain rfl : i = j := by omega
      exact getD_both hun
  have take : ∀ (j : Nat) (x : Oper), (l.take i)[j]? = some x → j < i ∧ l[j]? = some x := fun j x h => by
    rw [List.getElem?_take] at h
    split at h
    · exact ⟨by assumption, h⟩
    · cases h
  have takeR : ∀ (j : Nat) (x : Res), (rs.take i)[j]? = some x → j < i ∧ rs[j]? = some x := fun j x h => by
    rw [List.getElem?_take] at h
    split at h
    · exact ⟨by assumption, h⟩
    · cases h
  refine ⟨fun t ht => ?_, fun p hp => ?_⟩
  · by_cases hw : ∃ (j : Nat) (oj : Oper), j < i ∧ l[j]? = some oj ∧ oj.dst = some t
    · obtain ⟨j, oj, hji, hj, hd⟩ := hw
      have hdone := before j oj t hji hj hd ht
      have hjr : j < rs.length := by
        rw [hl]
        exact (List.getElem?_eq_some_iff.1 hj).1
      cases hres : rs[j] with
      | val v =>
        left
        have hrj : rs[j]? = some (.val v) := by rw [List.getElem?_eq_getElem hjr, hres]
        rw [inv.val j oj v t hj hrj hd hdone, runA_part a0 i hl]
        refine (runA_keep _ _ _ fun k ok v' hk hrk hdk => ?_).symm
        rw [List.getElem?_drop] at hk
        have := onceB_spec l hN j (i + k) oj ok hj hk hd hdk
        omega
      | loose V =>
        right
        have hrj : rs[j]? = some (.loose V) := by rw [List.getElem?_eq_getElem hjr, hres]
        refine ⟨V, List.mem_filter.2 ⟨?_, by simpa using ht⟩⟩
        exact runF_has _ _ _ j oj (by rw [List.getElem?_take_of_lt hji]; exact hj) (by rw [List.getElem?_take_of_lt hji]; exact hrj) hd
    · left
      rw [inv.rest t fun j oj hj hd => after j oj t (Nat.le_of_not_lt fun h => hw ⟨j, oj, h, hj, hd⟩) hj hd ht]
      exact runA_keep _ _ _ fun k ok v hk hrk hd => hw ⟨k, ok, (take k ok hk).1, (take k ok hk).2, hd⟩
  · obtain ⟨hp1, hp2⟩ := List.mem_filter.1 hp
    rcases runF_mem _ _ _ hp1 with h | ⟨j, oj, hj, hrj, hd⟩
    · cases h
    · have h1 := take j oj hj
      exact inv.loose j oj p.2 p.1 h1.2 (takeR j _ hrj).2 hd (before j oj p.1 h1.1 h1.2 hd (by simpa using hp2))

theorem all_done {l : List Oper} {m : Array Bool} (ha : ops = l.toArray) (hB : allOk ops l 0 l (bits l) = true) (hms : m.size = l.length) (h : Region.ready .any ops m = []) : ∀ j, j < l.length → m.getD j false = true := by
  intro j
  induction j using Nat.strongRecOn with
  | _ j ih =>
    intro hj
    cases hm : m.getD j false
    · exfalso
      have hoj : l[j]? = some l[j] := List.getElem?_eq_getElem hj
      have he := (allOk_spec l 0 _ hB j _ hoj).1
      have : j ∈ Region.ready .any ops m := mem_ready.2 ⟨getD_in (by omega) hm, l[j], by rw [ha]; simp, fun e hh hb => ih e.on (by have := he e hh hb; omega) (by have := he e hh hb; omega)⟩
      rw [h] at this
      cases this
    · rfl

theorem loose_any {Q : Act → World → Prop} {Q' : Exit → Act → World → Prop} {l : List Oper} {rs : List Res} {a0 : Act} (ha : ops = l.toArray) (hsel : Region.noSelect ops = true) (hB : allOk ops l 0 l (bits l) = true) (hN : onceB l = true) (hl : rs.length = l.length)
    (hS : ∀ i o res, l[i]? = some o → rs[i]? = some res → StepOK P ops w0 o (runA (l.take i) (rs.take i) a0) (runF (l.take i) (rs.take i) []) res)
    (hF : ∀ r, allFits (more w0 r) (runF l rs []) (fun a' => Q a' (more w0 r)) (runA l rs a0)) (hQ : ∀ a w, Q a w → Q' .normal a w) :
    ∀ (f : Nat) (m : Array Bool) (A : Act) (w : World), m.size = l.length → Shut ops m → LInv w0 l rs a0 m A w → (List.range l.length).countP (fun j => !(m.getD j false)) ≤ f → wpAny P .any ops Q' f m A w := by
  have hops : ∀ (j : Nat), ops[j]? = l[j]? := fun j => by rw [ha]; simp
  -- the end
  have fin : ∀ (m : Array Bool) (A : Act) (w : World), LInv w0 l rs a0 m A w → (∀ j, j < l.length → m.getD j false = true) → Q' .normal A w := fun m A w inv hall => by
    obtain ⟨r, rfl⟩ := inv.more
    obtain ⟨a', h1, h2, h3, h4⟩ := allFits_act (A := A) _ _ (fun p hp => by
      rcases runF_mem _ _ _ hp with h | ⟨j, oj, hj, hrj, hd⟩
      · cases h
      · exact inv.loose j oj p.2 p.1 hj hrj hd (hall j (List.getElem?_eq_some_iff.1 hj).1)) (by rw [runA_size, inv.size]) (by rw [runA_defs, inv.defs]) (hF r)
    have hsame : ∀ t, a'.tmps[t]? = A.tmps[t]? := fun t => by
      apply h4
      by_cases hw : ∃ (j : Nat) (oj : Oper), l[j]? = some oj ∧ oj.dst = some t
      · obtain ⟨j, oj, hj, hd⟩ := hw
        have hjr : j < rs.length := by
          rw [hl]
          exact (List.getElem?_eq_some_iff.1 hj).1
        have hdone := hall j (by omega)
        cases hres : rs[j] with
        | val v => exact .inl (inv.val j oj v t hj (by rw [List.getElem?_eq_getElem hjr, hres]) hd hdone).symm
        | loose V => exact .inr ⟨V, runF_has _ _ _ j oj hj (by rw [List.getElem?_eq_getElem hjr, hres]) hd⟩
      · left
        rw [inv.rest t fun j oj hj hd => absurd ⟨j, oj, hj, hd⟩ hw]
        exact runA_keep _ _ _ fun k ok v hk hrk hd => hw ⟨k, ok, hk, hd⟩
    have e : a' = A := by
      obtain ⟨at', ad'⟩ := a'
      obtain ⟨At, Ad⟩ := A
      simp only at h3 hsame
      subst h3
      have : at' = At := Array.ext_getElem? hsame
      rw [this]
    rw [← e]
    exact hQ _ _ h1
  intro f
  induction f with
  | zero =>
    intro m A w hms hsh inv hc
    have hall : ∀ j, j < l.length → m.getD j false = true := fun j hj => by
      have h0 : (List.range l.length).countP (fun j => !(m.getD j false)) = 0 := by omega
      have := List.countP_eq_zero.1 h0 j (by simpa using hj)
      simpa using this
    refine ⟨List.eq_nil_iff_forall_not_mem.2 fun i hi => ?_, fin m A w inv hall⟩
    obtain ⟨hun, oi, hoi, _⟩ := mem_ready.1 hi
    have hlt : i < l.length := by
      rw [hops] at hoi
      exact (List.getElem?_eq_some_iff.1 hoi).1
    have h1 := hall i hlt
    rw [getD_both hun] at h1
    cases h1
  | succ f ih =>
    intro m A w hms hsh inv hc
    refine ⟨fun h => fin m A w inv (all_done ha hB hms h), fun i hi => ?_⟩
    obtain ⟨hun, oi, hoi, hall⟩ := mem_ready.1 hi
    have hil : l[i]? = some oi := by rw [← hops]; exact hoi
    have hlt : i < l.length := (List.getElem?_eq_some_iff.1 hil).1
    obtain ⟨g1, g2⟩ := agree_at ha hl hB hN inv hsh hil hi
    have hir : i < rs.length := by omega
    have hres0 : rs[i]? = some rs[i] := List.getElem?_eq_getElem hir
    have hst := hS i oi rs[i] hil hres0
    have hcnt : (List.range l.length).countP (fun j => !((m.setIfInBounds i true).getD j false)) ≤ f := by
      have := countP_less (i := i) (p := fun j => !(m.getD j false)) (q := fun j => !((m.setIfInBounds i true).getD j false)) (List.range l.length) (fun j hj => by
        simp only [Bool.not_eq_true'] at hj ⊢
        cases hmj : m.getD j false
        · rfl
        · rw [getD_set_true hmj] at hj; cases hj) (by simpa using hlt) (by simp only [Bool.not_eq_true']; exact getD_both hun) (by simp [hms, hlt])
      omega
    -- behind the operation
    have next : ∀ (u : Value) (w'' : World), More w w'' → (∀ v, rs[i] = .val v → u = v) → (∀ V, rs[i] = .loose V → V u w'' ∧ ∃ d, oi.dst = some d ∧ d < A.tmps.size) → LInv w0 l rs a0 (m.setIfInBounds i true) (A.put oi.dst u) w'' := fun u w'' hmo hval hlo => by
      have old : ∀ (j : Nat) (o : Oper) (d : Nat), l[j]? = some o → o.dst = some d → j ≠ i → oi.dst ≠ some d := fun j o d hj hd hne he => hne (onceB_spec l hN j i o oi hj hil hd he)
      refine ⟨?_, by rw [put_size, inv.size], by rw [put_defs, inv.defs], fun j o v d hj hrj hd hdone => ?_, fun j o V d hj hrj hd hdone => ?_, fun d hd => ?_⟩
      · obtain ⟨r, rfl⟩ := inv.more
        obtain ⟨s, rfl⟩ := hmo
        exact ⟨_, more_more _ _ _⟩
      · by_cases hji : j = i
        · subst hji
          obtain rfl : o = oi := Option.some.inj (hj.symm.trans hil)
          have hv : rs[j] = .val v := Option.some.inj (hres0.symm.trans hrj)
          rw [hval v hv, hd, put_at, if_pos rfl]
          have hsz : A.tmps.size = (runA (l.take j) (rs.take j) a0).tmps.size := by rw [runA_size, inv.size]
          have e1 : runA l rs a0 = runA (l.drop (j + 1)) (rs.drop (j + 1)) ((runA (l.take j) (rs.take j) a0).put (some d) v) := by
            rw [runA_part a0 j hl, List.drop_eq_getElem_cons hlt, List.drop_eq_getElem_cons hir, runA]
            have e2 : l[j] = o := Option.some.inj ((List.getElem?_eq_getElem hlt).symm.trans hil)
            rw [e2, hv, nextA, hd]
          rw [e1, runA_keep _ _ _ fun k ok v' hk hrk hdk => (by
            rw [List.getElem?_drop] at hk
            have := onceB_spec l hN j (j + 1 + k) o ok hil hk hd hdk
            omega), put_at, if_pos rfl, hsz]
        · rw [put_off _ _ _ _ (old j o d hj hd hji)]
          rw [getD_set_ne false (Ne.symm hji)] at hdone
          exact inv.val j o v d hj hrj hd hdone
      · by_cases hji : j = i
        · subst hji
          obtain rfl : o = oi := Option.some.inj (hj.symm.trans hil)
          obtain ⟨h1, d', hd', hlt'⟩ := hlo V (Option.some.inj (hres0.symm.trans hrj))
          rw [hd] at hd'
          obtain rfl := Option.some.inj hd'
          exact ⟨u, by rw [hd, put_at, if_pos rfl, if_pos hlt'], h1⟩
        · rw [getD_set_ne false (Ne.symm hji)] at hdone
          obtain ⟨u', h1, h2⟩ := inv.loose j o V d hj hrj hd hdone
          have hmono := (hS j o (.loose V) hj hrj).2.1
          exact ⟨u', by rw [put_off _ _ _ _ (old j o d hj hd hji)]; exact h1, hmono _ _ _ hmo h2⟩
      · have hne : oi.dst ≠ some d := fun he => by
          have := hd i oi hil he
          rw [show (m.setIfInBounds i true).getD i false = true by simp [hms, hlt]] at this
          cases this
        rw [put_off _ _ _ _ hne]
        refine inv.rest d fun j o hj hd' => ?_
        have := hd j o hj hd'
        cases hmj : m.getD j false
        · rfl
        · rw [getD_set_true hmj] at this; cases this
    have go : ∀ (u : Value) (w'' : World), More w w'' → (∀ v, rs[i] = .val v → u = v) → (∀ V, rs[i] = .loose V → V u w'' ∧ ∃ d, oi.dst = some d ∧ d < A.tmps.size) → wpAny P .any ops Q' f (m.setIfInBounds i true) (A.put oi.dst u) w'' := fun u w'' h1 h2 h3 =>
      ih _ _ _ (by simpa using hms) (shut_set hsh hi) (next u w'' h1 h2 h3) hcnt
    unfold wpOp
    simp only [hoi]
    obtain ⟨r, hr⟩ := inv.more
    subst hr
    have hsz : (runA (l.take i) (rs.take i) a0).tmps.size = A.tmps.size := by rw [runA_size, inv.size]
    cases hres : rs[i] with
    | val v =>
      rw [hres] at hst
      obtain ⟨a', h1, h2, h3, h4⟩ := allFits_act (A := A) _ _ g2 hsz (by rw [runA_defs, inv.defs]) (hst r)
      have hag : ∀ t ∈ oi.looksAt ops, a'.tmps[t]? = A.tmps[t]? := fun t ht => h4 t (g1 t ht)
      rw [wanted_agree oi hag] at h1
      split
      · rename_i hw
        rw [if_pos hw] at h1
        refine .inl ?_
        unfold looseAt at h1
        rw [exec_agree oi (Region.noSelect_spec hsel i oi · · hoi) hag] at h1
        exact wp_of_loose h1 fun u w' hm hu => go u w' hm (fun v' hv' => by rw [hres] at hv'; cases hv'; exact hu) (fun V hV => by rw [hres] at hV; cases hV)
      · rename_i hw
        rw [if_neg hw] at h1
        exact go undef _ (More.refl _) (fun v' hv' => by rw [hres] at hv'; cases hv'; exact h1.symm) (fun V hV => by rw [hres] at hV; cases hV)
    | loose V =>
      rw [hres] at hst
      obtain ⟨⟨d, hd, hdl⟩, hmono, hstep⟩ := hst
      obtain ⟨a', h1, h2, h3, h4⟩ := allFits_act (A := A) _ _ g2 hsz (by rw [runA_defs, inv.defs]) (hstep r)
      have hag : ∀ t ∈ oi.looksAt ops, a'.tmps[t]? = A.tmps[t]? := fun t ht => h4 t (g1 t ht)
      rw [wanted_agree oi hag] at h1
      rw [if_pos h1.1]
      refine .inl ?_
      have h5 := h1.2
      unfold looseAt at h5
      rw [exec_agree oi (Region.noSelect_spec hsel i oi · · hoi) hag] at h5
      exact wp_of_loose h5 fun u w' hm hu => go u w' hm (fun v' hv' => by rw [hres] at hv'; cases hv') (fun V' hV => by rw [hres] at hV; cases hV; exact ⟨hu, d, hd, by rw [← hsz]; exact hdl⟩)
end

def looseB (l : List Oper) : Bool := quickB l && onceB l
theorem wp_loose {P : Program} {id : Nat} {Q : Exit → Act → World → Prop} {a : Act} {w W : World} {l : List Oper} (hm : P.follows .mixedOrders = true) (hB : looseB l = true) (hW : ∃ r, { W with drawn := W.drawn + 1 } = more w r)
    (h : wpLoose P l.toArray w (fun a' w' => Q .normal a' w') l [] a) : (Code.region id l.toArray true).wp P Q a W := by
  simp only [looseB, quickB, Bool.and_eq_true] at hB
  obtain ⟨⟨hsel, hok⟩, hon⟩ := hB
  obtain ⟨rs, hl, hS, hF⟩ := loose_extract l _ _ h
  refine wp_region_any hm (loose_any rfl hsel hok hon hl hS hF (fun _ _ h => h) _ _ _ _ (by simp) ?_ ?_ ?_)
  · intro j oj hj hlj
    rw [getD_replicate_false] at hlj
    cases hlj
  · refine ⟨hW, rfl, rfl, fun j o v d _ _ _ hd => ?_, fun j o V d _ _ _ hd => ?_, fun d _ => rfl⟩
    · rw [getD_replicate_false] at hd; cases hd
    · rw [getD_replicate_false] at hd; cases hd
  · exact Nat.le_trans List.countP_le_length (by simp)
theorem wp_more_loose {P : Program} {id : Nat} {Q : Exit → Act → World → Prop} {a : Act} {w : World} {l : List Oper} (hm : P.follows .mixedOrders = true) (hB : looseB l = true)
    (h : wpLoose P l.toArray w (fun a' w' => Q .normal a' w') l [] a) : (Code.region id l.toArray true).wp P Q a w :=
  wp_loose hm hB ⟨⟨#[], w.drawn + 1⟩, by unfold more; simp⟩ h
theorem wp_more_loose_m {P : Program} {id : Nat} {Q : Exit → Act → World → Prop} {a : Act} {w : World} {s : Rest} {l : List Oper} (hm : P.follows .mixedOrders = true) (hB : looseB l = true)
    (h : wpLoose P l.toArray w (fun a' w' => Q .normal a' w') l [] a) : (Code.region id l.toArray true).wp P Q a (more w s) :=
  wp_loose hm hB ⟨s.draw 1, by rw [← more_drew]; rfl⟩ h

/-! The steps of the walk. -/
def constUpon (P : Program) (w : World) (v : Value) : Result Next → Prop
  | .ok (.value u) w' => More w w' ∧ u = v
  | .ok .skip w' => More w w' ∧ v = undef
  | .ok (.enter f args) w' => w' = w ∧ Calls P f args w (fun e w'' => e = .returned v ∧ More w w'')
  | _ => False
def constAt (P : Program) (o : Oper) (a : Act) (w : World) (v : Value) : Prop := constUpon P w v ((execOp a.eval o).run P w)
theorem loose_of_const {P : Program} {o : Oper} {a : Act} {w : World} {v : Value} (h : constAt P o a w v) : looseAt P o a w (fun u _ => u = v) := by
  unfold constAt at h
  unfold looseAt
  generalize (execOp a.eval o).run P w = r at *
  cases r with
  | ok n w' =>
    cases n <;> simp only [constUpon] at h <;> simp only [looseUpon]
    case value u => exact h
    case skip => exact ⟨h.1, h.2.symm⟩
    case enter f args => exact ⟨h.1, h.2.mono fun e w'' ⟨he, hm⟩ => ⟨v, he, hm, rfl⟩⟩
  | halt x w' => simp only [constUpon] at h
theorem More.self (w : World) : More w w ↔ True := ⟨fun _ => trivial, fun _ => More.refl w⟩
attribute [go_sem] looseAt looseUpon constAt constUpon More.self

section
variable {P : Program} {ops : Array Oper} {w0 : World} {Q : Act → World → Prop} {o : Oper} {rest : List Oper} {F : FL} {a : Act}
theorem loose_step (hF : looked ops o F = [])
    (h : ∀ K : Act → Prop, (∀ a, wpLoose P ops w0 Q rest F a → K a) → if Region.wanted o (yielded ops a.tmps) then ∃ v, (∀ r, constAt P o a (more w0 r) v) ∧ K (a.put o.dst v) else K (a.put o.dst undef)) : wpLoose P ops w0 Q (o :: rest) F a := by
  have h1 := h _ (fun _ h => h)
  by_cases hw : Region.wanted o (yielded ops a.tmps) = true
  · rw [if_pos hw] at h1
    obtain ⟨v, hv, hk⟩ := h1
    refine ⟨.val v, fun r => ?_, hk⟩
    rw [hF]
    show (if _ then _ else _)
    rw [if_pos hw]
    exact loose_of_const (hv r)
  · rw [if_neg hw] at h1
    refine ⟨.val undef, fun r => ?_, h1⟩
    rw [hF]
    show (if _ then _ else _)
    rw [if_neg hw]
theorem loose_make (d : Nat) (V : Value → World → Prop) (hd : o.dst = some d) (hF : looked ops o F = []) (hs : d < a.tmps.size) (hw : Region.wanted o (yielded ops a.tmps) = true) (hm : ∀ v w w', More w w' → V v w → V v w')
    (hv : ∀ r, looseAt P o a (more w0 r) V) (hk : wpLoose P ops w0 Q rest ((d, V) :: F) a) : wpLoose P ops w0 Q (o :: rest) F a := by
  refine ⟨.loose V, ⟨⟨d, hd, hs⟩, hm, fun r => ?_⟩, ?_⟩
  · rw [hF]
    exact ⟨hw, hv r⟩
  · show wpLoose P ops w0 Q rest (nextF o F (.loose V)) a
    unfold nextF
    rw [hd]
    exact hk
theorem loose_use (d : Nat) {V : Value → World → Prop} (hF : looked ops o F = [(d, V)]) (hw : ∀ u, Region.wanted o (yielded ops (a.put (some d) u).tmps) = true)
    (h : ∃ v, (∀ r u, V u (more w0 r) → constAt P o (a.put (some d) u) (more w0 r) v) ∧ wpLoose P ops w0 Q rest F (a.put o.dst v)) : wpLoose P ops w0 Q (o :: rest) F a := by
  obtain ⟨v, hv, hk⟩ := h
  refine ⟨.val v, fun r => ?_, hk⟩
  rw [hF]
  intro u hu
  show (if _ then _ else _)
  rw [if_pos (hw u)]
  exact loose_of_const (hv r u hu)
end
theorem loose_same {P : Program} {f : FuncId} {args : Array Value} {w : World} {v : Value} (h : Calls P f args w fun e w' => e = .returned v ∧ w = w') : Calls P f args w fun e w' => e = .returned v ∧ More w w' :=
  h.mono fun _ _ ⟨he, hm⟩ => ⟨he, by rw [← hm]; exact More.refl _⟩
theorem loose_call_b {P : Program} {f : FuncId} {args : Array Value} {w : World} {b c : Bool} (h : Calls P f args w fun e w' => e = .returned (.bool c) ∧ More w w') (e : c = b) : Calls P f args w fun e w' => e = .returned (.bool b) ∧ More w w' := e ▸ h
theorem loose_same_b {P : Program} {f : FuncId} {args : Array Value} {w : World} {b c : Bool} (h : Calls P f args w fun e w' => e = .returned (.bool c) ∧ w = w') (e : c = b) : Calls P f args w fun e w' => e = .returned (.bool b) ∧ More w w' := loose_same (e ▸ h)
/-- The world taken as a variable: what is known of it is what is said here. -/
theorem at_world {P : Program} {c : Code} {Q : Exit → Act → World → Prop} {a : Act} {w W : World} {R : World → Prop} (hm : More w W) (hr : R W) (h : ∀ W1, More w W1 → R W1 → c.wp P Q a W1) : c.wp P Q a W := h W hm hr
end Go.Proofs.YtolfobgpgmfnpaaDoor

