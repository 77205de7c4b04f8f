/- A scope in which the run jumps to two labels: back to the first one again and again, and once to the second one. -/
import Derived.Test.YtobdcogaphkogaaF
import Derived.WalkMore
import Derived.ScopeJumps
namespace Go.Proofs.Ytobdcogaphkogaa

/-- As Q; by a goto to label l: J; to label m: K; by any other goto: no way out. -/
def jump2 (l : Nat) (J : Act → World → Prop) (m : Nat) (K : Act → World → Prop) (Q : Exit → Act → World → Prop) : Exit → Act → World → Prop
  | .goto i, a, w => (i = l ∧ J a w) ∨ (i = m ∧ K a w)
  | e, a, w => Q e a w

section
variable {P : Program} {a : Act} {w : World} {Q : Exit → Act → World → Prop}

theorem jump2_mono {l m : Nat} {J J' K K' : Act → World → Prop} (hJ : ∀ a w, J a w → J' a w) (hK : ∀ a w, K a w → K' a w) : ∀ e a w, jump2 l J m K Q e a w → jump2 l J' m K' Q e a w := by
  intro e a w h
  cases e with
  | goto i => exact h.elim (fun h => .inl ⟨h.1, hJ _ _ h.2⟩) (fun h => .inr ⟨h.1, hK _ _ h.2⟩)
  | normal => exact h
  | exit _ => exact h
  | ret => exact h
  | panic _ => exact h
  | outgrown => exact h

theorem wp_scope_two {c body last : Code} (l m : Nat) (J K : Act → World → Prop) (μ : Act → World → Nat) (hl : findLabel c l = some (Code.skip.seq body)) (hm : findLabel c m = some last)
    (pass' : ∀ a w, J a w → body.wp P (jump2 l (fun a' w' => J a' w' ∧ μ a' w' < μ a w) m K Q) a w)
    (out : ∀ a w, K a w → last.wp P (jump2 l (fun _ _ => False) m (fun _ _ => False) Q) a w)
    (first : (∀ a w, J a w → body.wp P (jump2 l J m K Q) a w) → c.wp P (jump2 l J m K Q) a w) : (Code.scope c).wp P Q a w := by
  have enter : ∀ a w, J a w → body.wp P (jump2 l J m K Q) a w := fun a w h => Code.wp_mono (jump2_mono (fun _ _ h => h.1) (fun _ _ h => h)) (pass' a w h)
  obtain ⟨rest, hrest⟩ : ∃ r, r = Code.skip.seq body := ⟨_, rfl⟩
  have pass : ∀ a w, J a w → rest.wp P (jump2 l (fun a' w' => J a' w' ∧ μ a' w' < μ a w) m K Q) a w := fun a w h => by
    rw [hrest]; exact wp_seq (wp_skip (pass' a w h))
  rw [← hrest] at hl
  intro b k cs
  have gl : gotoIn l (.inScope c :: k) = some (.code rest :: .inScope c :: k) := by simp [gotoIn, hl]
  have gm : gotoIn m (.inScope c :: k) = some (.code last :: .inScope c :: k) := by simp [gotoIn, hm]
  have ends : ∀ a w, K a w → ∃ e a' w', Q e a' w' ∧ Arrives P (lone (b.at a (.code last :: .inScope c :: k)) cs w) b k cs e a' w' := by
    intro a w hK
    obtain ⟨e, a₁, w₁, hq, harr⟩ := out a w hK b (.inScope c :: k) cs
    cases e with
    | normal => exact ⟨.normal, a₁, w₁, hq, Steps.trans harr (.one step_inScope)⟩
    | exit id => exact ⟨.exit id, a₁, w₁, hq, fun k' hk => harr k' (by simp [exitTo, hk])⟩
    | goto l' => exact (hq.elim (fun h => h.2) (fun h => h.2)).elim
    | ret => exact ⟨_, a₁, w₁, hq, harr⟩
    | panic ch => exact ⟨_, a₁, w₁, hq, harr⟩
    | outgrown => exact ⟨_, a₁, w₁, hq, harr⟩
  have key : ∀ n a w, μ a w = n → J a w → ∃ e a' w', Q e a' w' ∧ Arrives P (lone (b.at a (.code rest :: .inScope c :: k)) cs w) b k cs e a' w' := by
    intro n
    induction n using Nat.strongRecOn with
    | _ n ih =>
      intro a w hn hJ
      obtain ⟨e, a₁, w₁, hq, harr⟩ := pass a w hJ b (.inScope c :: k) cs
      cases e with
      | normal => exact ⟨.normal, a₁, w₁, hq, Steps.trans harr (.one step_inScope)⟩
      | exit id => exact ⟨.exit id, a₁, w₁, hq, fun k' hk => harr k' (by simp [exitTo, hk])⟩
      | goto l' =>
        rcases hq with ⟨rfl, hJ', hlt⟩ | ⟨rfl, hK⟩
        · obtain ⟨e₂, a₂, w₂, hq₂, harr₂⟩ := ih _ (by omega) a₁ w₁ rfl hJ'
          exact ⟨e₂, a₂, w₂, hq₂, .of_steps (harr _ gl) harr₂⟩
        · obtain ⟨e₂, a₂, w₂, hq₂, harr₂⟩ := ends a₁ w₁ hK
          exact ⟨e₂, a₂, w₂, hq₂, .of_steps (harr _ gm) harr₂⟩
      | ret => exact ⟨_, a₁, w₁, hq, harr⟩
      | panic ch => exact ⟨_, a₁, w₁, hq, harr⟩
      | outgrown => exact ⟨_, a₁, w₁, hq, harr⟩
  obtain ⟨e, a₁, w₁, hq, harr⟩ := first enter b (.inScope c :: k) cs
  cases e with
  | normal => exact ⟨.normal, a₁, w₁, hq, .head step_scope (Steps.trans harr (.one step_inScope))⟩
  | exit id => exact ⟨.exit id, a₁, w₁, hq, fun k' hk => .head step_scope (harr k' (by simp [exitTo, hk]))⟩
  | goto l' =>
    rcases hq with ⟨rfl, hJ'⟩ | ⟨rfl, hK⟩
    · obtain ⟨e₂, a₂, w₂, hq₂, harr₂⟩ := key _ a₁ w₁ rfl hJ'
      exact ⟨e₂, a₂, w₂, hq₂, .of_steps (.head step_scope (harr _ gl)) harr₂⟩
    · obtain ⟨e₂, a₂, w₂, hq₂, harr₂⟩ := ends a₁ w₁ hK
      exact ⟨e₂, a₂, w₂, hq₂, .of_steps (.head step_scope (harr _ gm)) harr₂⟩
  | ret => exact ⟨_, a₁, w₁, hq, .of_steps (.one step_scope) harr⟩
  | panic ch => exact ⟨_, a₁, w₁, hq, .of_steps (.one step_scope) harr⟩
  | outgrown => exact ⟨_, a₁, w₁, hq, .of_steps (.one step_scope) harr⟩
end
end Go.Proofs.Ytobdcogaphkogaa
