import Derived.Test.YtaocomjhepgabaaKWn
set_option linter.unusedVariables false
set_option linter.unusedSimpArgs false
set_option linter.unnecessarySimpa false
/- Wdn -/
namespace Go.Proofs.Ytaocomjhepgabaa
section
variable {V : Type}
def sec (cs : List (Cl V)) : List V := (cs.filter (fun c => c.second)).map (·.v)
def lv (L : List (V × Nat × Bool)) : List V := L.map (·.1)
theorem sec_cons (c : Cl V) (r : List (Cl V)) : sec (c :: r) = if c.second = true then c.v :: sec r else sec r := by
  unfold sec
  cases h : c.second <;> simp [h]
theorem sec_hearv (c : Cl V) (m : Nat) (r : List (Cl V)) : sec (hear c m :: r) = sec (c :: r) := by rw [sec_cons, sec_cons, hear_second, hear_v]
theorem sec_ans (c : Cl V) (r : List (Cl V)) : sec (answered c r) = sec r := by
  cases r with
  | nil => rfl
  | cons d r => exact sec_hearv d c.least r
/-- Done is what stands in the list or heads a component on its way; each of them once. -/
structure InvD (S : St V) : Prop where
  nd : (lv S.list ++ sec S.calls).Nodup
  dn : ∀ x, S.marks x = DONE ↔ x ∈ lv S.list ++ sec S.calls
end
section
variable {V : Type} [DecidableEq V]
theorem off_done {succ : V → List V} {U : List V} {S : St V} (h : Inv succ U S) {c : Cl V} {r : List (Cl V)} (e : S.calls = c :: r) (h2 : c.second = false) : S.marks c.v ≠ DONE ∧ ∀ x, (takeOff c.v S.stack S.marks).2 x = DONE ↔ x = c.v ∨ S.marks x = DONE := by
  have ht := h.top e h2
  have hm : ∀ u ∈ S.stack, S.marks u ≠ 0 ∧ S.marks u ≠ DONE := fun u hu => (h.stk u hu).2
  obtain ⟨a, b, h1, h3, h4, h5⟩ := takeOff_spec c.v S.stack S.marks ht h.snd hm
  refine ⟨(hm _ ht).2, fun x => ?_⟩
  rw [h5]
  by_cases hx : x = c.v
  · simp [hx]
  · rw [if_neg hx]
    by_cases ha : x ∈ a
    · rw [if_pos ha]
      have := (hm x (by rw [h1]; exact List.mem_append_left _ ha)).2
      constructor
      · intro h; cases h
      · rintro (h | h)
        · exact absurd h hx
        · exact absurd h this
    · rw [if_neg ha]
      constructor
      · exact fun h => .inr h
      · rintro (h | h)
        · exact absurd h hx
        · exact h
theorem InvD.step {succ : V → List V} {U : List V} {S : St V} (d : InvD S) (h : Inv succ U S) (g : Gr succ U) : InvD (step succ S) := by
  have hsm := h.small g
  have hcnt := h.cnt
  have hgs := g.sm
  unfold Go.Proofs.Ytaocomjhepgabaa.step
  split
  · exact d
  · rename_i c r e
    have hnd := d.nd
    have hdn := d.dn
    rw [e, sec_cons] at hnd
    simp only [e, sec_cons] at hdn
    split
    · unfold through
      split
      · rename_i h2
        rw [if_pos h2] at hnd
        simp only [if_pos h2] at hdn
        have hnd2 := List.nodup_append.1 hnd
        have hnd3 := List.nodup_cons.1 hnd2.2.1
        refine ⟨?_, fun x => ?_⟩
        · show (c.v :: lv S.list ++ sec (answered c r)).Nodup
          rw [sec_ans, List.cons_append, List.nodup_cons]
          refine ⟨fun hx => ?_, List.nodup_append.2 ⟨hnd2.1, hnd3.2, fun a ha b hb => hnd2.2.2 a ha b (List.mem_cons_of_mem _ hb)⟩⟩
          rcases List.mem_append.1 hx with hx | hx
          · exact hnd2.2.2 _ hx c.v List.mem_cons_self rfl
          · exact hnd3.1 hx
        · show S.marks x = DONE ↔ x ∈ c.v :: lv S.list ++ sec (answered c r)
          rw [sec_ans, hdn x]
          simp only [List.mem_append, List.mem_cons, List.cons_append]
          constructor
          · rintro (h | h | h)
            · exact .inr (.inl h)
            · exact .inl h
            · exact .inr (.inr h)
          · rintro (h | h | h)
            · exact .inr (.inl h)
            · exact .inl h
            · exact .inr (.inr h)
      · rename_i h2
        have h2' : c.second = false := by simpa using h2
        rw [if_neg h2] at hnd
        simp only [if_neg h2] at hdn
        split
        · obtain ⟨o1, o2⟩ := off_done h e h2'
          have hnotin : c.v ∉ lv S.list ++ sec r := fun hx => o1 ((hdn c.v).2 hx)
          split
          · refine ⟨?_, fun x => ?_⟩
            · show (lv S.list ++ sec (⟨c.v, succ c.v, c.least, c.loop, true⟩ :: r)).Nodup
              rw [sec_cons, if_pos rfl]
              have hnd2 := List.nodup_append.1 hnd
              refine List.nodup_append.2 ⟨hnd2.1, List.nodup_cons.2 ⟨fun hx => hnotin (List.mem_append_right _ hx), hnd2.2.1⟩, fun a ha b hb => ?_⟩
              rcases List.mem_cons.1 hb with rfl | hb
              · intro e2; exact hnotin (List.mem_append_left _ (e2 ▸ ha))
              · exact hnd2.2.2 a ha b hb
            · show (takeOff c.v S.stack S.marks).2 x = DONE ↔ x ∈ lv S.list ++ sec (⟨c.v, succ c.v, c.least, c.loop, true⟩ :: r)
              rw [sec_cons, if_pos rfl, o2 x, hdn x]
              simp only [List.mem_append, List.mem_cons]
              constructor
              · rintro (h | h | h)
                · exact .inr (.inl h)
                · exact .inl h
                · exact .inr (.inr h)
              · rintro (h | h | h)
                · exact .inr (.inl h)
                · exact .inl h
                · exact .inr (.inr h)
          · refine ⟨?_, fun x => ?_⟩
            · show (c.v :: lv S.list ++ sec (answered c r)).Nodup
              rw [sec_ans, List.cons_append, List.nodup_cons]
              exact ⟨hnotin, hnd⟩
            · show (takeOff c.v S.stack S.marks).2 x = DONE ↔ x ∈ c.v :: lv S.list ++ sec (answered c r)
              rw [sec_ans, o2 x, hdn x]
              simp only [List.mem_append, List.mem_cons, List.cons_append]
        · refine ⟨?_, fun x => ?_⟩
          · show (lv S.list ++ sec (answered c r)).Nodup
            rw [sec_ans]; exact hnd
          · show S.marks x = DONE ↔ x ∈ lv S.list ++ sec (answered c r)
            rw [sec_ans]; exact hdn x
    · rename_i u q hq
      split
      · rename_i h0
        refine ⟨?_, fun x => ?_⟩
        · show (lv S.list ++ sec (⟨u, succ u, S.count + 1, false, false⟩ :: ⟨c.v, q, c.least, c.loop, c.second⟩ :: r)).Nodup
          rw [sec_cons, if_neg (by simp), sec_cons]; exact hnd
        · show upd S.marks u (S.count + 1) x = DONE ↔ x ∈ lv S.list ++ sec (⟨u, succ u, S.count + 1, false, false⟩ :: ⟨c.v, q, c.least, c.loop, c.second⟩ :: r)
          rw [sec_cons, if_neg (by simp), sec_cons]
          show _ ↔ x ∈ lv S.list ++ (if c.second = true then c.v :: sec r else sec r)
          rw [← hdn x]
          unfold upd
          by_cases hx : x = u
          · subst hx
            rw [if_pos rfl, h0]
            have hu := (h.arc g e hq).1
            have hf : fresh U (upd S.marks x (S.count + 1)) + 1 = fresh U S.marks := cp_drop (fun k => decide (k = 0)) S.marks x (S.count + 1) (by simpa using h0) (by simp) U g.nd hu
            have h1 : S.count + 1 ≠ DONE := by omega
            have h2 : (0 : Nat) ≠ DONE := by decide
            exact ⟨fun h => absurd h h1, fun h => absurd h h2⟩
          · rw [if_neg hx]
      · refine ⟨?_, fun x => ?_⟩
        · show (lv S.list ++ sec (hear ⟨c.v, q, c.least, c.loop, c.second⟩ (S.marks u) :: r)).Nodup
          rw [sec_hearv, sec_cons]; exact hnd
        · show S.marks x = DONE ↔ x ∈ lv S.list ++ sec (hear ⟨c.v, q, c.least, c.loop, c.second⟩ (S.marks u) :: r)
          rw [sec_hearv, sec_cons]; exact hdn x
theorem InvD.iter {succ : V → List V} {U : List V} (g : Gr succ U) : ∀ (k : Nat) {S : St V}, Inv succ U S → InvD S → InvD (iter succ k S)
  | 0, _, _, d => d
  | k + 1, _, h, d => InvD.iter g k (h.step g) (d.step h g)
theorem InvD.start (succ : V → List V) (r : V) : InvD (start succ r) := by
  refine ⟨by simp [Go.Proofs.Ytaocomjhepgabaa.start, visit, lv, sec], fun x => ?_⟩
  show upd (fun _ => 0) r 1 x = DONE ↔ x ∈ lv [] ++ sec [⟨r, succ r, 1, false, false⟩]
  have h1 : (1 : Nat) ≠ DONE := by decide
  have h2 : (0 : Nat) ≠ DONE := by decide
  unfold upd
  split
  · simp [h1, lv, sec]
  · simp [h2, lv, sec]
end
end Go.Proofs.Ytaocomjhepgabaa
