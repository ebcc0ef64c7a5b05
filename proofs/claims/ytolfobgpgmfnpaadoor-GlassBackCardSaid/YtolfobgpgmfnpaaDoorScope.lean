/-
  A scope with one label to which the run comes back, and others to which it goes onward.
-/
import Derived.ScopeJumps
import Derived.Test.YtolfobgpgmfnpaaDoorGa
namespace Go
set_option linter.unusedVariables false

/-- By a goto to label l: J; by one to another label: the code behind that label, from which no goto but to l is met. -/
def Exit.hub (P : Program) (c : Code) (l : Nat) (J : Act → World → Prop) (Q : Exit → Act → World → Prop) : Exit → Act → World → Prop
  | .goto l', a, w => (l' = l ∧ J a w) ∨ (∃ r, findLabel c l' = some r ∧ r.wp P (Exit.jump l J Q) a w)
  | e, a, w => Q e a w

section
variable {P : Program} {a : Act} {w : World} {Q : Exit → Act → World → Prop}
theorem wp_scope_hub {c rest : Code} (l : Nat) (J : Act → World → Prop) (μ : Act → World → Nat) (hf : findLabel c l = some rest)
    (first : c.wp P (Exit.hub P c l J Q) a w)
    (pass : ∀ a w, J a w → rest.wp P (Exit.hub P c l (fun a' w' => J a' w' ∧ μ a' w' < μ a w) Q) a w) : (Code.scope c).wp P Q a w := by
  intro b k cs
  have hgo : ∀ {l' : Nat} {r : Code}, findLabel c l' = some r → gotoIn l' (.inScope c :: k) = some (.code r :: .inScope c :: k) := fun h => by simp [gotoIn, h]
  -- what comes of a stretch that may go onward once
  have onward : ∀ (J' : Act → World → Prop) (m : Machine) (e : Exit) (a₁ : Act) (w₁ : World), Exit.hub P c l J' Q e a₁ w₁ → Arrives P m b (.inScope c :: k) cs e a₁ w₁ →
      ∃ e a' w', Exit.jump l J' Q e a' w' ∧ Arrives P m b (.inScope c :: k) cs e a' w' := by
    intro J' m e a₁ w₁ hq harr
    cases e with
    | goto l' =>
      rcases hq with ⟨rfl, hJ⟩ | ⟨r, hr, hw⟩
      · exact ⟨.goto l', a₁, w₁, ⟨rfl, hJ⟩, harr⟩
      · obtain ⟨e₂, a₂, w₂, hq₂, harr₂⟩ := hw b (.inScope c :: k) cs
        exact ⟨e₂, a₂, w₂, hq₂, .of_steps (harr _ (hgo hr)) harr₂⟩
    | normal => exact ⟨.normal, a₁, w₁, hq, harr⟩
    | exit id => exact ⟨.exit id, a₁, w₁, hq, harr⟩
    | ret => exact ⟨.ret, a₁, w₁, hq, harr⟩
    | panic ch => exact ⟨.panic ch, a₁, w₁, hq, harr⟩
    | outgrown => exact ⟨.outgrown, a₁, w₁, hq, harr⟩
  have key : ∀ n a w, μ a w = n → J a w → ∃ e a' w', Q e a' w' ∧ Arrives P (lone (b.at a (.code rest :: .inScope c :: k)) cs w) b k cs e a' w' := by
    intro n
    induction n using Nat.strongRecOn with
    | _ n ih =>
      intro a w hn hJ
      obtain ⟨e₀, a₀, w₀, hq₀, harr₀⟩ := pass a w hJ b (.inScope c :: k) cs
      obtain ⟨e, a₁, w₁, hq, harr⟩ := onward _ _ e₀ a₀ w₀ hq₀ harr₀
      cases e with
      | normal => exact ⟨.normal, a₁, w₁, hq, Steps.trans harr (.one step_inScope)⟩
      | exit id => exact ⟨.exit id, a₁, w₁, hq, fun k' hk => harr k' (by simp [exitTo, hk])⟩
      | goto l' =>
        obtain ⟨rfl, hJ', hlt⟩ := hq
        obtain ⟨e₂, a₂, w₂, hq₂, harr₂⟩ := ih _ (by omega) a₁ w₁ rfl hJ'
        exact ⟨e₂, a₂, w₂, hq₂, .of_steps (harr _ (hgo hf)) harr₂⟩
      | ret => exact ⟨.ret, a₁, w₁, hq, harr⟩
      | panic ch => exact ⟨.panic ch, a₁, w₁, hq, harr⟩
      | outgrown => exact ⟨.outgrown, a₁, w₁, hq, harr⟩
  obtain ⟨e₀, a₀, w₀, hq₀, harr₀⟩ := first b (.inScope c :: k) cs
  obtain ⟨e, a₁, w₁, hq, harr⟩ := onward _ _ e₀ a₀ w₀ hq₀ harr₀
  cases e with
  | normal => exact ⟨.normal, a₁, w₁, hq, .head step_scope (Steps.trans harr (.one step_inScope))⟩
  | exit id => exact ⟨.exit id, a₁, w₁, hq, fun k' hk => .head step_scope (harr k' (by simp [exitTo, hk]))⟩
  | goto l' =>
    obtain ⟨rfl, hJ'⟩ := hq
    obtain ⟨e₂, a₂, w₂, hq₂, harr₂⟩ := key _ a₁ w₁ rfl hJ'
    exact ⟨e₂, a₂, w₂, hq₂, .of_steps (.head step_scope (harr _ (hgo hf))) harr₂⟩
  | ret => exact ⟨.ret, a₁, w₁, hq, .of_steps (.one step_scope) harr⟩
  | panic ch => exact ⟨.panic ch, a₁, w₁, hq, .of_steps (.one step_scope) harr⟩
  | outgrown => exact ⟨.outgrown, a₁, w₁, hq, .of_steps (.one step_scope) harr⟩
/-- The same, said of what stands behind the label: it is entered from above, and come back to. -/
theorem wp_scope_hub2 {c R : Code} (l : Nat) (J : Act → World → Prop) (μ : Act → World → Nat) (hf : findLabel c l = some (Code.seq .skip R))
    (pass : ∀ (J' : Act → World → Prop) a w, J a w → (∀ a' w', J a' w' → μ a' w' < μ a w → J' a' w') → R.wp P (Exit.hub P c l J' Q) a w)
    (first : (∀ a w, J a w → R.wp P (Exit.hub P c l J Q) a w) → c.wp P (Exit.hub P c l J Q) a w) : (Code.scope c).wp P Q a w :=
  wp_scope_hub l J μ hf (first fun a w h => pass J a w h (fun _ _ h _ => h)) (fun a w h => wp_seq (wp_skip (pass _ a w h (fun _ _ h1 h2 => ⟨h1, h2⟩))))
/-- The same, with the ways out under a name: what is said of them stands aside. -/
theorem wp_scope_hub3 {c R : Code} (l : Nat) (J : Act → World → Prop) (μ : Act → World → Nat) (hf : findLabel c l = some (Code.seq .skip R))
    (pass : ∀ (E E' : Exit → Act → World → Prop) a w, J a w → RowKit.Hid (∀ a' w', J a' w' → μ a' w' < μ a w → E (.goto l) a' w' ∧ E' (.goto l) a' w') → RowKit.Hid (∀ a' w', Q .ret a' w' → E .ret a' w' ∧ E' .ret a' w') →
      RowKit.Hid (∀ l' r a' w', findLabel c l' = some r → r.wp P E' a' w' → E (.goto l') a' w') → R.wp P E a w)
    (first : (∀ a w, J a w → R.wp P (Exit.hub P c l J Q) a w) → c.wp P (Exit.hub P c l J Q) a w) : (Code.scope c).wp P Q a w := by
  refine wp_scope_hub2 l J μ hf (fun J' a w hJ hJ' => ?_) first
  exact pass (Exit.hub P c l J' Q) (Exit.jump l J' Q) a w hJ (show ∀ a' w', _ → _ → _ from fun a' w' h1 h2 => ⟨Or.inl ⟨rfl, hJ' a' w' h1 h2⟩, ⟨rfl, hJ' a' w' h1 h2⟩⟩) (show ∀ a' w', _ → _ from fun a' w' h => ⟨h, h⟩) (show ∀ l' r a' w', _ → _ → _ from fun l' r a' w' h1 h2 => Or.inr ⟨r, h1, h2⟩)
/-- Up to here, and no further: what comes behind is not to be looked at. -/
theorem wp_seq_hid {A B : Code} (h : A.wp P (Exit.then (fun a w => RowKit.Hid (B.wp P Q a w)) Q) a w) : (Code.seq A B).wp P Q a w := wp_seq h
end
section
variable {P : Program} {c : Code} {Q : Exit → Act → World → Prop} {J : Act → World → Prop} {a : Act} {w : World} {l : Nat}
@[go_sem] theorem Exit.jump_normal' : Exit.jump l J Q .normal a w = Q .normal a w := rfl
@[go_sem] theorem Exit.jump_exit' (id : Nat) : Exit.jump l J Q (.exit id) a w = Q (.exit id) a w := rfl
@[go_sem] theorem Exit.jump_ret' : Exit.jump l J Q .ret a w = Q .ret a w := rfl
@[go_sem] theorem Exit.hub_normal : Exit.hub P c l J Q .normal a w = Q .normal a w := rfl
@[go_sem] theorem Exit.hub_exit (id : Nat) : Exit.hub P c l J Q (.exit id) a w = Q (.exit id) a w := rfl
@[go_sem] theorem Exit.hub_ret : Exit.hub P c l J Q .ret a w = Q .ret a w := rfl
end
end Go

