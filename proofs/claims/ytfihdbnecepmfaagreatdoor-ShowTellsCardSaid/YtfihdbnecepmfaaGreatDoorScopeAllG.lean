/-
  A scope in which the run jumps to any of its labels: what holds at each jump, and a number that every pass from a label lowers.
-/
import Derived.Test.YtfihdbnecepmfaaGreatDoorBase
import Derived.Scope
import Derived.ScopeJumps
import Derived.WalkMore

namespace Go

/-- As Q; by a goto: J of its label. -/
def Exit.jumps (J : Nat → Act → World → Prop) (Q : Exit → Act → World → Prop) : Exit → Act → World → Prop
  | .goto l, a, w => J l a w
  | e, a, w => Q e a w
section
variable {P : Program} {a : Act} {w : World} {Q : Exit → Act → World → Prop} {J : Nat → Act → World → Prop}
theorem Exit.jumps_normal : Exit.jumps J Q .normal a w = Q .normal a w := rfl
theorem Exit.jumps_ret : Exit.jumps J Q .ret a w = Q .ret a w := rfl
theorem Exit.jumps_goto (l : Nat) : Exit.jumps J Q (.goto l) a w = J l a w := rfl

theorem Exit.jumps_mono {J' : Nat → Act → World → Prop} (h : ∀ l a w, J l a w → J' l a w) (e : Exit) (a : Act) (w : World) (k : Exit.jumps J Q e a w) : Exit.jumps J' Q e a w := by
  cases e with
  | goto l => exact h _ _ _ k
  | normal => exact k
  | exit id => exact k
  | ret => exact k
  | panic ch => exact k
  | outgrown => exact k

theorem wp_scope_base {c : Code} (J : Nat → Nat → Act → World → Prop)
    (first : c.wp P (Exit.jumps (fun l a' w' => ∃ n, J l n a' w') Q) a w)
    (pass : ∀ l n a w, J l n a w → ∃ rest, findLabel c l = some rest ∧ rest.wp P (Exit.jumps (fun l' a' w' => ∃ n', J l' n' a' w' ∧ n' < n) Q) a w) : (Code.scope c).wp P Q a w := by
  intro b k cs
  have key : ∀ n l a w, J l n a w → ∃ rest, findLabel c l = some rest ∧ ∃ e a' w', Q e a' w' ∧ Arrives P (lone (b.at a (.code rest :: .inScope c :: k)) cs w) b k cs e a' w' := by
    intro n
    induction n using Nat.strongRecOn with
    | _ n ih =>
      intro l a w hJ
      obtain ⟨rest, hf, hp⟩ := pass l n a w hJ
      refine ⟨rest, hf, ?_⟩
      obtain ⟨e, a₁, w₁, hq, harr⟩ := hp b (.inScope c :: k) cs
      cases e with
      | normal => exact ⟨.normal, a₁, w₁, hq, Steps.trans harr (.one step_inScope)⟩
      | exit id => exact ⟨.exit id, a₁, w₁, hq, fun k' hk => harr k' (by simp [exitTo, hk])⟩
      | goto l' =>
        obtain ⟨n', hJ', hlt⟩ := hq
        obtain ⟨rest', hf', e₂, a₂, w₂, hq₂, harr₂⟩ := ih n' hlt l' a₁ w₁ hJ'
        have hg : gotoIn l' (.inScope c :: k) = some (.code rest' :: .inScope c :: k) := by simp [gotoIn, hf']
        exact ⟨e₂, a₂, w₂, hq₂, .of_steps (harr _ hg) harr₂⟩
      | ret => exact ⟨_, a₁, w₁, hq, harr⟩
      | panic ch => exact ⟨_, a₁, w₁, hq, harr⟩
      | outgrown => exact ⟨_, a₁, w₁, hq, harr⟩
  obtain ⟨e, a₁, w₁, hq, harr⟩ := first b (.inScope c :: k) cs
  cases e with
  | normal => exact ⟨.normal, a₁, w₁, hq, .head step_scope (Steps.trans harr (.one step_inScope))⟩
  | exit id => exact ⟨.exit id, a₁, w₁, hq, fun k' hk => .head step_scope (harr k' (by simp [exitTo, hk]))⟩
  | goto l =>
    obtain ⟨n, hJ⟩ := hq
    obtain ⟨rest, hf, e₂, a₂, w₂, hq₂, harr₂⟩ := key n l a₁ w₁ hJ
    have hg : gotoIn l (.inScope c :: k) = some (.code rest :: .inScope c :: k) := by simp [gotoIn, hf]
    exact ⟨e₂, a₂, w₂, hq₂, .of_steps (.head step_scope (harr _ hg)) harr₂⟩
  | ret => exact ⟨_, a₁, w₁, hq, .of_steps (.one step_scope) harr⟩
  | panic ch => exact ⟨_, a₁, w₁, hq, .of_steps (.one step_scope) harr⟩
  | outgrown => exact ⟨_, a₁, w₁, hq, .of_steps (.one step_scope) harr⟩
theorem wp_skip_seq {rest : Code} (h : rest.wp P Q a w) : (Code.skip.seq rest).wp P Q a w := by
  refine wp_seq ?_
  refine wp_skip ?_
  exact h
/-- A label that the run comes to by itself is as good as a jump to it: 'ih', 'hp' serve there. -/
theorem wp_scope_all {c : Code} (J : Nat → Nat → Act → World → Prop)
    (pass : ∀ l n a w, J l n a w → (∀ l' n' a' w', n' < n → J l' n' a' w' → ∃ rest, findLabel c l' = some (Code.skip.seq rest) ∧ rest.wp P (Exit.jumps (fun l'' a'' w'' => ∃ n'', J l'' n'' a'' w'' ∧ n'' < n) Q) a' w') →
      ∃ rest, findLabel c l = some (Code.skip.seq rest) ∧ rest.wp P (Exit.jumps (fun l' a' w' => ∃ n', J l' n' a' w' ∧ n' < n) Q) a w)
    (first : (∀ l n a' w', J l n a' w' → ∃ rest, findLabel c l = some (Code.skip.seq rest) ∧ rest.wp P (Exit.jumps (fun l' a' w' => ∃ n', J l' n' a' w') Q) a' w') → c.wp P (Exit.jumps (fun l a' w' => ∃ n, J l n a' w') Q) a w) : (Code.scope c).wp P Q a w := by
  have key : ∀ n l a w, J l n a w → ∃ rest, findLabel c l = some (Code.skip.seq rest) ∧ rest.wp P (Exit.jumps (fun l' a' w' => ∃ n', J l' n' a' w' ∧ n' < n) Q) a w := by
    intro n
    induction n using Nat.strongRecOn with
    | _ n ih =>
      intro l a w hJ
      refine pass l n a w hJ fun l' n' a' w' hlt hJ' => ?_
      obtain ⟨rest, hf, hw⟩ := ih n' hlt l' a' w' hJ'
      exact ⟨rest, hf, wp_mono hw fun e a'' w'' k => Exit.jumps_mono (fun _ _ _ ⟨m, h1, h2⟩ => ⟨m, h1, by omega⟩) e a'' w'' k⟩
  refine wp_scope_base J (first fun l n a' w' hJ => ?_) (fun l n a w h => let ⟨rest, hf, hw⟩ := key n l a w h; ⟨_, hf, wp_skip_seq hw⟩)
  obtain ⟨rest, hf, hw⟩ := key n l a' w' hJ
  exact ⟨rest, hf, wp_mono hw fun e a'' w'' k => Exit.jumps_mono (fun _ _ _ ⟨m, h1, _⟩ => ⟨m, h1⟩) e a'' w'' k⟩
end
end Go
