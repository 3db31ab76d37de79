import Derived.Test.YtaocomjhepgabaaKWdn
import Derived.Test.YtaocomjhepgabaaKWf
set_option linter.unusedVariables false
set_option linter.unusedSimpArgs false
set_option linter.unnecessarySimpa false
/- Wrc -/
namespace Go.Proofs.Ytaocomjhepgabaa
section
variable {V : Type}
/-- Everything in a state has P. -/
structure InvP (P : V → Prop) (S : St V) : Prop where
  dc : ∀ c ∈ S.calls, P c.v ∧ ∀ u ∈ c.rest, P u
  dl : ∀ x ∈ S.list, P x.1
end
section
variable {V : Type} [DecidableEq V]
theorem InvP.step {succ : V → List V} {P : V → Prop} (cl : ∀ v, P v → ∀ u ∈ succ v, P u) {S : St V} (h : InvP P S) : InvP P (step succ S) := by
  unfold Go.Proofs.Ytaocomjhepgabaa.step
  split
  · exact h
  · rename_i c r e
    have hc := h.dc c (by rw [e]; exact List.mem_cons_self)
    have hr : ∀ d ∈ r, P d.v ∧ ∀ u ∈ d.rest, P u := fun d hd => h.dc d (by rw [e]; exact List.mem_cons_of_mem _ hd)
    have hl1 : ∀ (b : Bool) (n : Nat), ∀ x ∈ ((c.v, n, b) :: S.list : List (V × Nat × Bool)), P x.1 := by
      intro b n x hx
      rcases List.mem_cons.1 hx with rfl | hx
      · exact hc.1
      · exact h.dl x hx
    split
    · unfold through
      split
      · exact ⟨dc_answered hr, hl1 true S.depth⟩
      · split
        · split
          · refine ⟨fun d hd => ?_, h.dl⟩
            rcases List.mem_cons.1 hd with rfl | hd
            · exact ⟨hc.1, cl c.v hc.1⟩
            · exact hr d hd
          · exact ⟨dc_answered hr, hl1 false S.depth⟩
        · exact ⟨dc_answered hr, h.dl⟩
    · rename_i u q hq
      have hu : P u := hc.2 u (by rw [hq]; exact List.mem_cons_self)
      have hq2 : ∀ x ∈ q, P x := fun x hx => hc.2 x (by rw [hq]; exact List.mem_cons_of_mem _ hx)
      split
      · refine ⟨fun d hd => ?_, h.dl⟩
        rcases List.mem_cons.1 hd with rfl | hd
        · exact ⟨hu, cl u hu⟩
        · rcases List.mem_cons.1 hd with rfl | hd
          · exact ⟨hc.1, hq2⟩
          · exact hr d hd
      · refine ⟨fun d hd => ?_, h.dl⟩
        rcases List.mem_cons.1 hd with rfl | hd
        · exact dc_hear _ ⟨hc.1, hq2⟩
        · exact hr d hd
theorem InvP.iter {succ : V → List V} {P : V → Prop} (cl : ∀ v, P v → ∀ u ∈ succ v, P u) : ∀ (k : Nat) {S : St V}, InvP P S → InvP P (iter succ k S)
  | 0, _, h => h
  | k + 1, _, h => InvP.iter cl k (h.step cl)
/-- A number stands on the stack. -/
def InvN (S : St V) : Prop := ∀ x, S.marks x = 0 ∨ S.marks x = DONE ∨ x ∈ S.stack
theorem off_num {succ : V → List V} {U : List V} {S : St V} (h : Inv succ U S) (hn : InvN S) {c : Cl V} {r : List (Cl V)} (e : S.calls = c :: r) (h2 : c.second = false) : ∀ x, (takeOff c.v S.stack S.marks).2 x = 0 ∨ (takeOff c.v S.stack S.marks).2 x = DONE ∨ x ∈ (takeOff c.v S.stack S.marks).1 := by
  have ht := h.top e h2
  have hm : ∀ u ∈ S.stack, S.marks u ≠ 0 ∧ S.marks u ≠ DONE := fun u hu => (h.stk u hu).2
  obtain ⟨a, b, h1, h3, h4, h5⟩ := takeOff_spec c.v S.stack S.marks ht h.snd hm
  intro x
  rw [h5, h4]
  by_cases hx : x = c.v
  · simp [hx]
  · rw [if_neg hx]
    by_cases ha : x ∈ a
    · rw [if_pos ha]; exact .inl rfl
    · rw [if_neg ha]
      rcases hn x with h | h | h
      · exact .inl h
      · exact .inr (.inl h)
      · rw [h1] at h
        rcases List.mem_append.1 h with h | h
        · exact absurd h ha
        · rcases List.mem_cons.1 h with h | h
          · exact absurd h hx
          · exact .inr (.inr h)
theorem InvN.step {succ : V → List V} {U : List V} {S : St V} (hn : InvN S) (h : Inv succ U S) : InvN (step succ S) := by
  unfold Go.Proofs.Ytaocomjhepgabaa.step
  split
  · exact hn
  · rename_i c r e
    split
    · unfold through
      split
      · exact hn
      · rename_i h2
        have h2' : c.second = false := by simpa using h2
        split
        · split
          · exact off_num h hn e h2'
          · exact off_num h hn e h2'
        · exact hn
    · rename_i u q hq
      split
      · intro x
        show upd S.marks u (S.count + 1) x = 0 ∨ upd S.marks u (S.count + 1) x = DONE ∨ x ∈ u :: S.stack
        unfold upd
        by_cases hx : x = u
        · exact .inr (.inr (by rw [hx]; exact List.mem_cons_self))
        · rw [if_neg hx]
          rcases hn x with h | h | h
          · exact .inl h
          · exact .inr (.inl h)
          · exact .inr (.inr (List.mem_cons_of_mem _ h))
      · exact hn
theorem InvN.iter {succ : V → List V} {U : List V} (g : Gr succ U) : ∀ (k : Nat) {S : St V}, Inv succ U S → InvN S → InvN (iter succ k S)
  | 0, _, _, d => d
  | k + 1, _, h, d => InvN.iter g k (h.step g) (d.step h)
theorem InvN.start (succ : V → List V) (r : V) : InvN (start succ r) := by
  intro x
  show upd (fun _ => 0) r 1 x = 0 ∨ upd (fun _ => 0) r 1 x = DONE ∨ x ∈ [r]
  unfold upd
  by_cases hx : x = r
  · exact .inr (.inr (by simp [hx]))
  · rw [if_neg hx]; exact .inl rfl
end
end Go.Proofs.Ytaocomjhepgabaa
