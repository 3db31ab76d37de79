import Derived.Test.YtbakinibehhfnaaWrc
set_option linter.unusedVariables false
set_option linter.unusedSimpArgs false
set_option linter.unnecessarySimpa false
/- wto: big steps: a call that is made is answered, with what waits below it as it was. -/
namespace Go.Proofs.Ytbakinibehhfnaa
section
variable {V : Type} [DecidableEq V]
/-- What a step makes of the calls: one more, the top one turned, or the top one answered. -/
theorem step_calls {succ : V → List V} {S : St V} {c : Cl V} {r : List (Cl V)} (e : S.calls = c :: r) :
    (∃ d c', (step succ S).calls = d :: c' :: r) ∨ (∃ c', (step succ S).calls = c' :: r) ∨ (step succ S).calls = answered c r := by
  unfold step
  rw [e]
  cases hq : c.rest with
  | nil =>
    simp only [hq]
    unfold through
    split
    · exact .inr (.inr rfl)
    · split
      · split
        · exact .inr (.inl ⟨_, rfl⟩)
        · exact .inr (.inr rfl)
      · exact .inr (.inr rfl)
  | cons u q =>
    simp only [hq]
    split
    · exact .inl ⟨_, _, rfl⟩
    · exact .inr (.inl ⟨_, rfl⟩)
/-- The call that stands lowest above r comes to the top, and is answered there. -/
theorem pops {succ : V → List V} {U : List V} (g : Gr succ U) (r : List (Cl V)) : ∀ (a b : Nat) (S : St V), Inv succ U S → fresh U S.marks + nond U S.marks * (U.length + 1) = a → rems S.calls = b → (∃ p, p ≠ [] ∧ S.calls = p ++ r) →
    ∃ k c, (iter succ k S).calls = c :: r ∧ (step succ (iter succ k S)).calls = answered c r := by
  intro a
  induction a using Nat.strongRecOn with
  | ind a iha =>
    intro b
    induction b using Nat.strongRecOn with
    | ind b ihb =>
      intro S h ha hb hp
      obtain ⟨p, hp0, hp⟩ := hp
      cases p with
      | nil => exact absurd rfl hp0
      | cons c p =>
        have e : S.calls = c :: (p ++ r) := hp
        have hne : S.calls ≠ [] := by rw [e]; simp
        have go : (∃ p, p ≠ [] ∧ (step succ S).calls = p ++ r) → ∃ k c, (iter succ k S).calls = c :: r ∧ (step succ (iter succ k S)).calls = answered c r := by
          intro hq
          rcases step_less h g hne with hl | ⟨he, hl⟩
          · obtain ⟨k, d, h1, h2⟩ := iha _ (by omega) _ (step succ S) (h.step g) rfl rfl hq
            exact ⟨k + 1, d, h1, h2⟩
          · obtain ⟨k, d, h1, h2⟩ := ihb _ (by omega) (step succ S) (h.step g) (by omega) rfl hq
            exact ⟨k + 1, d, h1, h2⟩
        rcases step_calls (succ := succ) e with ⟨d, c', h1⟩ | ⟨c', h1⟩ | h1
        · exact go ⟨d :: c' :: p, by simp, by rw [h1]; rfl⟩
        · exact go ⟨c' :: p, by simp, by rw [h1]; rfl⟩
        · cases p with
          | nil => exact ⟨0, c, e, h1⟩
          | cons d p => exact go ⟨hear d c.least :: p, by simp, by rw [h1]; rfl⟩
/-- A visit is answered: behind it the calls that waited stand as they did, the top one having heard. -/
theorem visit_answered {succ : V → List V} {U : List V} (g : Gr succ U) {S : St V} (h : Inv succ U S) {u : V} (hu : u ∈ U) (h0 : S.marks u = 0) :
    ∃ k c, (iter succ k (visit succ u S)).calls = c :: S.calls ∧ (iter succ (k + 1) (visit succ u S)).calls = answered c S.calls ∧ Inv succ U (iter succ (k + 1) (visit succ u S)) := by
  have hv := h.visit g hu h0
  obtain ⟨k, c, h1, h2⟩ := pops g S.calls _ _ (visit succ u S) hv rfl rfl ⟨[⟨u, succ u, S.count + 1, false, false⟩], by simp, rfl⟩
  refine ⟨k, c, h1, ?_, Inv.iter g (k + 1) hv⟩
  rw [iter_add]
  exact h2
end
end Go.Proofs.Ytbakinibehhfnaa
