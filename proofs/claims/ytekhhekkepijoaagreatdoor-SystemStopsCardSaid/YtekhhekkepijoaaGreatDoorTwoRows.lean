/-
  Two rows of the call's own that grow side by side behind a world, and a block that stays as it is.
-/
import Derived.Test.YtekhhekkepijoaaGreatDoorGr5
import Derived.Test.YtekhhekkepijoaaGreatDoorGc
namespace Go.Proofs.YtekhhekkepijoaaGreatDoor
set_option linter.unusedVariables false
open Go.ChangeShapes Go.WideShapes Go.ChangeAt Go.RowKit

/-- What lies behind a world of so many blocks: two rows, a block. -/
structure Own3 (base : Nat) (s : Rest) (e1 : TypeId) (m1 : Nat) (v1 : Value) (n1 : Nat) (xs1 : List Value) (e2 : TypeId) (m2 : Nat) (v2 : Value) (n2 : Nat) (xs2 : List Value) (m : Nat) (ob : Obj) : Prop where
  fst : OwnS base s e1 m1 v1 n1 xs1
  snd : OwnS base s e2 m2 v2 n2 xs2
  off : Off2 v1 v2
  blk : ∀ w : World, w.heap.size = base → (more w s).heap[m]? = some ob
  ap1 : v1.ownBlock ≠ some m
  ap2 : v2.ownBlock ≠ some m
theorem Own3.swap {base m1 n1 m2 n2 m : Nat} {s : Rest} {e1 e2 : TypeId} {v1 v2 : Value} {xs1 xs2 : List Value} {ob : Obj} (h : Own3 base s e1 m1 v1 n1 xs1 e2 m2 v2 n2 xs2 m ob) : Own3 base s e2 m2 v2 n2 xs2 e1 m1 v1 n1 xs1 m ob :=
  ⟨h.snd, h.fst, h.off.symm, h.blk, h.ap2, h.ap1⟩
theorem blk_more {base m : Nat} {s r : Rest} {ob : Obj} (h : ∀ w : World, w.heap.size = base → (more w s).heap[m]? = some ob) : ∀ w : World, w.heap.size = base → (more w (s.plus r)).heap[m]? = some ob := by
  intro w hw
  rw [← more_more, heap_more _ _ _ (Array.getElem?_eq_some_iff.1 (h w hw)).1]
  exact h w hw
theorem blk_draw {base m k : Nat} {s : Rest} {ob : Obj} (h : ∀ w : World, w.heap.size = base → (more w s).heap[m]? = some ob) : ∀ w : World, w.heap.size = base → (more w (s.draw k)).heap[m]? = some ob := fun w hw => h w hw
def OwnK (X wr : World) (base : Nat) (e1 : TypeId) (m1 : Nat) (v1 : Value) (n1 : Nat) (xs1 : List Value) (e2 : TypeId) (m2 : Nat) (v2 : Value) (n2 : Nat) (xs2 : List Value) (m : Nat) (ob : Obj) : Prop := ∃ s, wr = more X s ∧ Own3 base s e1 m1 v1 n1 xs1 e2 m2 v2 n2 xs2 m ob
section
variable {X wr : World} {base m1 n1 m2 n2 m : Nat} {e1 e2 : TypeId} {v1 v2 : Value} {xs1 xs2 : List Value} {ob : Obj}
theorem OwnK.swap (h : OwnK X wr base e1 m1 v1 n1 xs1 e2 m2 v2 n2 xs2 m ob) : OwnK X wr base e2 m2 v2 n2 xs2 e1 m1 v1 n1 xs1 m ob := by
  obtain ⟨s, h0, h1⟩ := h
  exact ⟨s, h0, h1.swap⟩
theorem OwnK.more (h : OwnK X wr base e1 m1 v1 n1 xs1 e2 m2 v2 n2 xs2 m ob) (r : Rest) : OwnK X (more wr r) base e1 m1 v1 n1 xs1 e2 m2 v2 n2 xs2 m ob := by
  obtain ⟨s, rfl, h1⟩ := h
  exact ⟨_, more_more _ _ _, h1.fst.plus, h1.snd.plus, h1.off, blk_more h1.blk, h1.ap1, h1.ap2⟩
theorem OwnK.alloc (h : OwnK X wr base e1 m1 v1 n1 xs1 e2 m2 v2 n2 xs2 m ob) (o : Obj) : OwnK X (wr.alloc o) base e1 m1 v1 n1 xs1 e2 m2 v2 n2 xs2 m ob := by
  obtain ⟨s, rfl, h1⟩ := h
  exact ⟨_, alloc_rest' _ _ _, h1.fst.plus, h1.snd.plus, h1.off, blk_more h1.blk, h1.ap1, h1.ap2⟩
theorem OwnK.drew (h : OwnK X wr base e1 m1 v1 n1 xs1 e2 m2 v2 n2 xs2 m ob) : OwnK X wr.drew base e1 m1 v1 n1 xs1 e2 m2 v2 n2 xs2 m ob := by
  obtain ⟨s, rfl, h1⟩ := h
  exact ⟨_, more_drew _ _, h1.fst.draw, h1.snd.draw, h1.off, blk_draw h1.blk, h1.ap1, h1.ap2⟩
end
/-- A block laid behind two rows. -/
theorem ownK_laid {X : World} {s : Rest} {base m1 n1 m2 n2 : Nat} {e1 e2 : TypeId} {v1 v2 : Value} {xs1 xs2 : List Value} {ob : Obj} (hb : X.heap.size = base) (h1 : OwnS base s e1 m1 v1 n1 xs1) (h2 : OwnS base s e2 m2 v2 n2 xs2) (h3 : Off2 v1 v2) {m : Nat} (hm : m = base + s.len) :
    OwnK X ((more X s).alloc ob) base e1 m1 v1 n1 xs1 e2 m2 v2 n2 xs2 m ob := by
  subst hm
  have hsz : ∀ w : World, w.heap.size = base → (more w s).heap.size = base + s.len := fun w hw => by rw [← hw]; simp
  refine ⟨_, alloc_rest' _ _ _, h1.plus, h2.plus, h3, ?_, ?_, ?_⟩
  · intro w hw
    rw [← alloc_rest', ← hsz w hw]
    exact heap_alloc_new _ _
  · intro he
    have := ((h1 X hb).lt _ he).2
    rw [hsz X hb] at this
    omega
  · intro he
    have := ((h2 X hb).lt _ he).2
    rw [hsz X hb] at this
    omega
theorem own3_form1 {base m1 n1 m2 n2 m : Nat} {s : Rest} {e1 e2 : TypeId} {v1 v2 : Value} {xs1 xs2 : List Value} {ob : Obj} (h : Own3 base s e1 m1 v1 n1 xs1 e2 m2 v2 n2 xs2 m ob) (w : World) (hw : w.heap.size = base) : ∃ ao c, v1 = .slice ao n1 c := ownSS_form h.fst w hw

theorem wpList_append_k {P : Program} {W2 w1 : World} {ops : Array Oper} {rest : List Oper} {o : Oper} {a : Act} {Q : Exit → Act → World → Prop}
    (hg : o.guard = none) (sl x : Operand) (t : TypeId) (hop : o.op = Op.call { callee := Callee.builtin Builtin.append, args := #[sl, x], argTypes := #[t, t] })
    (e : TypeId) (i : TypeInfo) (z : Value) (size bytes : Nat) (h1 : P.underlying t = some (.slice e)) (h2 : P.info? e = some i) (h3 : i.zero = some z) (h4 : i.size = size) (h5 : i.bytes = bytes) (h6 : z.cells.size = size) (h7 : 0 < size)
    (v : Value) (n : Nat) (xs : List Value) (base : Nat) (e2 : TypeId) (m2 : Nat) (u : Value) (n2 : Nat) (ys : List Value) (m : Nat) (ob : Obj) (hb : base = W2.heap.size) (hs : a.eval sl = v) (hown : OwnK W2 w1 base e size v n xs e2 m2 u n2 ys m ob)
    (news : List Value) (c b : Nat) (hx : a.eval x = .slice (some ⟨b, 0, none⟩) 1 c) (hbx : b = w1.heap.size) (hn : news.length = size) (h1c : ∀ u ∈ news, u.oneCell' = true)
    (b1 : n + 1 ≤ maxLen) (b2 : (n + 1) * bytes ≤ 140737488355328)
    (hK : ∀ v' w', OwnK W2 w' base e size v' (n + 1) (xs ++ news) e2 m2 u n2 ys m ob → wpList P ops Q rest (a.put o.dst v') w') :
    wpList P ops Q (o :: rest) a (w1.alloc (.cells news.toArray e)) := by
  obtain ⟨s, rfl, h, k, hoff, hblk, ha1, ha2⟩ := hown
  subst hb hbx
  have hw := h W2 rfl
  have kw := k W2 rfl
  have hm := hblk W2 rfl
  have hlt := (Array.getElem?_eq_some_iff.1 hm).1
  refine wpList_append_row _ hg sl x t hop W2.heap.size e i z size bytes h1 h2 h3 h4 h5 h6 h7 v n xs hs (owns_alloc hw) ⟨_, 0, none⟩ 1 c news hx (by rw [hn, Nat.one_mul]) (new_row news (by simp)) h1c (by decide) b1 b2 (by simp; omega) ?_
  intro v' w' ho hgr hnew
  have hbl : Below W2.heap.size W2 w' := by
    have h9 : Below W2.heap.size W2 (more W2 s) := (More.more (More.refl W2) s).below
    exact (h9.alloc (by simp) _).grown hgr (by simp; omega) (fun g hg => (hw.lt g hg).1)
  have ku : w'.ownsRow W2.heap.size e2 m2 u n2 ys := (owns_alloc kw).kept hgr hoff.symm
  have hkeep : w'.heap[m]? = some ob := by
    rw [hgr.block m (by simp at hlt ⊢; omega) (fun he => ha1 he.symm), Below.heap_alloc _ _ _ hlt]
    exact hm
  have hnew' : v'.ownBlock ≠ some m := by
    rcases hnew with he | he
    · rw [he]; exact ha1
    · intro hv
      have := he m hv
      simp at this hlt
      omega
  have hmb : W2.heap.size ≤ m ∨ m < W2.heap.size := by omega
  obtain ⟨s', rfl⟩ := more_of_below hbl
  refine hK v' _ ⟨s', rfl, OwnS.of rfl ho, OwnS.of rfl ku, ?_, ?_, hnew', ha2⟩
  · refine (Off2.step hoff.symm kw (hnew.imp id fun hh g hg => ?_)).symm
    have := hh g hg
    simp at this ⊢
    omega
  · intro w hw
    rcases hmb with hmb | hmb
    · rw [heap_more_ge _ _ _ (by omega), hw, ← heap_more_ge W2 s' m hmb]
      exact hkeep
    · have h8 := hblk w hw
      rw [heap_more _ _ _ (by omega)] at h8 ⊢
      exact h8
end Go.Proofs.YtekhhekkepijoaaGreatDoor

