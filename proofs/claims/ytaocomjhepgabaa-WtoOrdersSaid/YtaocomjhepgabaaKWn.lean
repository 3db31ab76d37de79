import Derived.Test.YtaocomjhepgabaaKWm
set_option linter.unusedVariables false
set_option linter.unusedSimpArgs false
set_option linter.unnecessarySimpa false
/- Wn -/
namespace Go.Proofs.Ytaocomjhepgabaa
section
variable {V : Type}
/-- The top call of another arc, or having heard. -/
theorem Inv.recall {succ : V → List V} {U : List V} {S : St V} (h : Inv succ U S) {c d : Cl V} {r : List (Cl V)} (e : S.calls = c :: r) (hv : d.v = c.v) (h2 : d.second = c.second) (hl : d.least ≤ c.least) (hr : ∃ p, succ d.v = p ++ d.rest) :
    Inv succ U ⟨d :: r, S.stack, S.list, S.depth, S.marks, S.count⟩ := by
  have hc := h.cls c (by rw [e]; exact List.mem_cons_self)
  refine ⟨h.stk, h.snd, ?_, ?_, h.cnt, ?_, h.stl, ?_, h.mrk⟩
  · have := h.sub; rw [e, fp_cons] at this
    show List.Sublist (fp (d :: r)) S.stack
    rw [fp_cons, h2, hv]; exact this
  · intro x hx
    rcases List.mem_cons.1 hx with rfl | hx
    · exact ⟨by rw [hv]; exact hc.1, hr, Nat.le_trans hl hc.2.2⟩
    · exact h.cls x (by rw [e]; exact List.mem_cons_of_mem _ hx)
  · have := h.len; rw [e] at this; exact this
  · have := h.dep; rw [e] at this
    show S.depth = ((d :: r).filter (fun c => c.second)).length
    rw [this]
    cases h3 : c.second <;> simp [h2, h3]
theorem Inv.arc {succ : V → List V} {U : List V} {S : St V} (h : Inv succ U S) (g : Gr succ U) {c : Cl V} {r : List (Cl V)} (e : S.calls = c :: r) {u : V} {q : List V} (hq : c.rest = u :: q) : u ∈ U ∧ Inv succ U ⟨⟨c.v, q, c.least, c.loop, c.second⟩ :: r, S.stack, S.list, S.depth, S.marks, S.count⟩ := by
  obtain ⟨hv, ⟨p, hp⟩, hl⟩ := h.cls c (by rw [e]; exact List.mem_cons_self)
  rw [hq] at hp
  exact ⟨g.cl c.v hv u (by rw [hp]; simp), h.recall (d := ⟨c.v, q, c.least, c.loop, c.second⟩) e rfl rfl (Nat.le_refl _) ⟨p ++ [u], by show succ c.v = _; rw [hp]; simp⟩⟩
def rems (cs : List (Cl V)) : Nat := (cs.map (fun c => c.rest.length + 1)).sum
theorem rems_answered (c : Cl V) (r : List (Cl V)) : rems (answered c r) = rems r := by
  cases r with
  | nil => rfl
  | cons d r => simp [answered, rems, hear_rest]
end
section
variable {V : Type} [DecidableEq V]
theorem Inv.visit {succ : V → List V} {U : List V} {S : St V} (h : Inv succ U S) (g : Gr succ U) {u : V} (hu : u ∈ U) (h0 : S.marks u = 0) : Inv succ U (visit succ u S) := by
  have hs := h.small g
  have hn : u ∉ S.stack := fun hx => (h.stk u hx).2.1 h0
  have hne : ∀ x ∈ S.stack, x ≠ u := fun x hx e => hn (e ▸ hx)
  have hf : fresh U (upd S.marks u (S.count + 1)) + 1 = fresh U S.marks := cp_drop (fun k => decide (k = 0)) S.marks u (S.count + 1) (by simpa using h0) (by simp) U g.nd hu
  have hd : nond U (upd S.marks u (S.count + 1)) = nond U S.marks := cp_same (fun k => decide (k ≠ DONE)) S.marks u (S.count + 1) (by
    have h1 : S.count + 1 ≠ DONE := by have := h.cnt; have := g.sm; omega
    have h2 : S.marks u ≠ DONE := by rw [h0]; decide
    rw [decide_eq_true h1, decide_eq_true h2]) U
  have hcnt := h.cnt
  have hsm := g.sm
  refine ⟨?_, ?_, ?_, ?_, ?_, ?_, ?_, ?_, ?_⟩
  · intro x hx
    rcases List.mem_cons.1 hx with rfl | hx
    · refine ⟨hu, ?_, ?_⟩
      · show upd S.marks x _ x ≠ 0; simp [upd]
      · show upd S.marks x _ x ≠ DONE; simp [upd]; omega
    · show x ∈ U ∧ upd S.marks u _ x ≠ 0 ∧ upd S.marks u _ x ≠ DONE
      simp only [upd, if_neg (hne x hx)]
      exact h.stk x hx
  · exact List.nodup_cons.2 ⟨hn, h.snd⟩
  · show List.Sublist (fp (_ :: S.calls)) (u :: S.stack)
    rw [fp_cons]
    exact h.sub.cons_cons u
  · intro c hc
    rcases List.mem_cons.1 hc with rfl | hc
    · exact ⟨hu, ⟨[], rfl⟩, Nat.le_refl _⟩
    · have := h.cls c hc
      exact ⟨this.1, this.2.1, Nat.le_trans this.2.2 (Nat.le_succ _)⟩
  · show S.count + 1 + fresh U (upd S.marks u (S.count + 1)) + nond U (upd S.marks u (S.count + 1)) * _ ≤ _
    rw [hd]; omega
  · have := h.len
    show S.list.length + (S.calls.length + 1) ≤ S.count + 1
    omega
  · have := h.stl
    show S.stack.length + 1 ≤ S.count + 1
    omega
  · show S.depth = ((⟨u, succ u, S.count + 1, false, false⟩ :: S.calls : List (Cl V)).filter (fun c => c.second)).length
    simp [h.dep]
  · intro x
    show upd S.marks u _ x ≤ S.count + 1 ∨ upd S.marks u _ x = DONE
    unfold upd
    split
    · exact Or.inl (Nat.le_refl _)
    · rcases h.mrk x with h | h
      · exact Or.inl (by omega)
      · exact Or.inr h
theorem Inv.through {succ : V → List V} {U : List V} {S : St V} (h : Inv succ U S) (g : Gr succ U) {c : Cl V} {r : List (Cl V)} (e : S.calls = c :: r) : Inv succ U (through succ c r S) := by
  have hc := h.cls c (by rw [e]; exact List.mem_cons_self)
  have hr : ∀ d ∈ r, d.v ∈ U ∧ (∃ p, succ d.v = p ++ d.rest) ∧ d.least ≤ S.count := fun d hd => h.cls d (by rw [e]; exact List.mem_cons_of_mem _ hd)
  have hlen := h.len
  have hdep := h.dep
  have hsub := h.sub
  have hcnt := h.cnt
  rw [e, List.length_cons] at hlen
  rw [e] at hdep hsub
  rw [fp_cons] at hsub
  have hsr : List.Sublist (fp r) S.stack := by
    split at hsub
    · exact hsub
    · exact (List.sublist_cons_self _ _).trans hsub
  unfold Go.Proofs.Ytaocomjhepgabaa.through
  split
  · rename_i h2
    refine ⟨h.stk, h.snd, ?_, cls_answered hr, h.cnt, ?_, h.stl, ?_, h.mrk⟩
    · show List.Sublist (fp (answered c r)) S.stack
      rw [fp_answered]; exact hsr
    · show S.list.length + 1 + (answered c r).length ≤ S.count
      rw [len_answered]; omega
    · show S.depth - 1 = ((answered c r).filter (fun c => c.second)).length
      rw [sec_answered, hdep]; simp [h2]
  · rename_i h2
    have h2' : c.second = false := by simpa using h2
    split
    · obtain ⟨o1, o2, o3, o4, o5, o6⟩ := h.off g e h2'
      have hfl := fresh_le U (takeOff c.v S.stack S.marks).2
      have hcnt2 : S.count + fresh U (takeOff c.v S.stack S.marks).2 + nond U (takeOff c.v S.stack S.marks).2 * (U.length + 1) ≤ U.length * (U.length + 2) := by
        rw [← o4, Nat.add_mul] at hcnt; omega
      have hst := h.stl
      split
      · refine ⟨o1, o2, ?_, ?_, hcnt2, ?_, by show (takeOff c.v S.stack S.marks).1.length ≤ S.count; omega, ?_, o6⟩
        · show List.Sublist (fp (⟨c.v, succ c.v, c.least, c.loop, true⟩ :: r)) _
          rw [fp_cons]; exact o3
        · intro x hx
          rcases List.mem_cons.1 hx with rfl | hx
          · exact ⟨hc.1, ⟨[], rfl⟩, hc.2.2⟩
          · exact hr x hx
        · show S.list.length + (r.length + 1) ≤ S.count; omega
        · show S.depth + 1 = ((⟨c.v, succ c.v, c.least, c.loop, true⟩ :: r : List (Cl V)).filter (fun c => c.second)).length
          rw [hdep]; simp [h2']
      · refine ⟨o1, o2, ?_, cls_answered hr, hcnt2, ?_, by show (takeOff c.v S.stack S.marks).1.length ≤ S.count; omega, ?_, o6⟩
        · show List.Sublist (fp (answered c r)) _
          rw [fp_answered]; exact o3
        · show S.list.length + 1 + (answered c r).length ≤ S.count
          rw [len_answered]; omega
        · show S.depth = ((answered c r).filter (fun c => c.second)).length
          rw [sec_answered, hdep]; simp [h2']
    · refine ⟨h.stk, h.snd, ?_, cls_answered hr, h.cnt, ?_, h.stl, ?_, h.mrk⟩
      · show List.Sublist (fp (answered c r)) S.stack
        rw [fp_answered]; exact hsr
      · show S.list.length + (answered c r).length ≤ S.count
        rw [len_answered]; omega
      · show S.depth = ((answered c r).filter (fun c => c.second)).length
        rw [sec_answered, hdep]; simp [h2']
theorem Inv.step {succ : V → List V} {U : List V} {S : St V} (h : Inv succ U S) (g : Gr succ U) : Inv succ U (step succ S) := by
  unfold Go.Proofs.Ytaocomjhepgabaa.step
  split
  · exact h
  · rename_i c r e
    split
    · exact h.through g e
    · rename_i u q hq
      obtain ⟨hu, h1⟩ := h.arc g e hq
      split
      · rename_i h0
        exact h1.visit g hu h0
      · have h2 := h1.recall (d := hear ⟨c.v, q, c.least, c.loop, c.second⟩ (S.marks u)) rfl (hear_v _ _) (hear_second _ _) (hear_least _ _) (by
          rw [hear_v, hear_rest]
          exact (h1.cls ⟨c.v, q, c.least, c.loop, c.second⟩ List.mem_cons_self).2.1)
        exact h2
theorem Inv.iter {succ : V → List V} {U : List V} (g : Gr succ U) : ∀ (k : Nat) {S : St V}, Inv succ U S → Inv succ U (iter succ k S)
  | 0, _, h => h
  | k + 1, _, h => Inv.iter g k (h.step g)
theorem Inv.start {succ : V → List V} {U : List V} (g : Gr succ U) {r : V} (hr : r ∈ U) : Inv succ U (start succ r) := by
  refine Inv.visit ?_ g hr rfl
  refine ⟨by simp, by simp, List.Sublist.refl _, by simp, ?_, by simp, by simp, rfl, fun v => Or.inl (Nat.le_refl _)⟩
  show 0 + fresh U (fun _ => 0) + nond U (fun _ => 0) * (U.length + 1) ≤ _
  have h1 := fresh_le U (fun _ => 0)
  have h2 : nond U (fun _ => 0) ≤ U.length := List.countP_le_length
  have h3 := Nat.mul_le_mul_right (U.length + 1) h2
  have h4 : U.length * (U.length + 2) = U.length * (U.length + 1) + U.length := by rw [← Nat.mul_succ]
  omega
/-- A step lessens (marks that are left, what the calls have ahead). -/
theorem step_less {succ : V → List V} {U : List V} {S : St V} (h : Inv succ U S) (g : Gr succ U) (hne : S.calls ≠ []) :
    fresh U (step succ S).marks + nond U (step succ S).marks * (U.length + 1) < fresh U S.marks + nond U S.marks * (U.length + 1) ∨
    (fresh U (step succ S).marks + nond U (step succ S).marks * (U.length + 1) = fresh U S.marks + nond U S.marks * (U.length + 1) ∧ rems (step succ S).calls < rems S.calls) := by
  have hs := h.small g
  unfold step
  split
  · rename_i e; exact absurd e hne
  · rename_i c r e
    split
    · rename_i hq
      rw [e]
      unfold through
      split
      · refine Or.inr ⟨rfl, ?_⟩
        show rems (answered c r) < rems (c :: r)
        rw [rems_answered]; simp [rems]
      · rename_i h2
        have h2' : c.second = false := by simpa using h2
        split
        · obtain ⟨o1, o2, o3, o4, o5, o6⟩ := h.off g e h2'
          have hfl := fresh_le U (takeOff c.v S.stack S.marks).2
          have key : fresh U (takeOff c.v S.stack S.marks).2 + nond U (takeOff c.v S.stack S.marks).2 * (U.length + 1) < fresh U S.marks + nond U S.marks * (U.length + 1) := by
            rw [← o4, Nat.add_mul]; omega
          split
          · exact Or.inl key
          · exact Or.inl key
        · refine Or.inr ⟨rfl, ?_⟩
          show rems (answered c r) < rems (c :: r)
          rw [rems_answered]; simp [rems]
    · rename_i u q hq
      obtain ⟨hu, h1⟩ := h.arc g e hq
      split
      · rename_i h0
        left
        have hf : fresh U (upd S.marks u (S.count + 1)) + 1 = fresh U S.marks := cp_drop (fun k => decide (k = 0)) S.marks u (S.count + 1) (by simpa using h0) (by simp) U g.nd hu
        have hd : nond U (upd S.marks u (S.count + 1)) = nond U S.marks := cp_same (fun k => decide (k ≠ DONE)) S.marks u (S.count + 1) (by
          have h1 : S.count + 1 ≠ DONE := by have := h.cnt; have := g.sm; omega
          have h2 : S.marks u ≠ DONE := by rw [h0]; decide
          rw [decide_eq_true h1, decide_eq_true h2]) U
        show fresh U (upd S.marks u (S.count + 1)) + nond U (upd S.marks u (S.count + 1)) * _ < _
        rw [hd]; omega
      · refine Or.inr ⟨rfl, ?_⟩
        show rems (hear _ _ :: r) < rems S.calls
        rw [e]; simp [rems, hear_rest, hq]
theorem run_ends {succ : V → List V} {U : List V} (g : Gr succ U) : ∀ (a b : Nat) (S : St V), Inv succ U S → fresh U S.marks + nond U S.marks * (U.length + 1) = a → rems S.calls = b → ∃ k, (iter succ k S).calls = [] := by
  intro a
  induction a using Nat.strongRecOn with
  | ind a iha =>
    intro b
    induction b using Nat.strongRecOn with
    | ind b ihb =>
      intro S h ha hb
      by_cases hne : S.calls = []
      · exact ⟨0, hne⟩
      · rcases step_less h g hne with hl | ⟨he, hl⟩
        · obtain ⟨k, hk⟩ := iha _ (by omega) _ (step succ S) (h.step g) rfl rfl
          exact ⟨k + 1, hk⟩
        · obtain ⟨k, hk⟩ := ihb _ (by omega) (step succ S) (h.step g) (by omega) rfl
          exact ⟨k + 1, hk⟩
theorem start_ends {succ : V → List V} {U : List V} (g : Gr succ U) {r : V} (hr : r ∈ U) : ∃ L, Ends succ (start succ r) L := by
  obtain ⟨k, hk⟩ := run_ends g _ _ (start succ r) (Inv.start g hr) rfl rfl
  exact ⟨_, k, hk, rfl⟩
theorem step_nil {succ : V → List V} {S : St V} (h : S.calls = []) : step succ S = S := by unfold step; rw [h]
theorem iter_nil {succ : V → List V} : ∀ (k : Nat) {S : St V}, S.calls = [] → iter succ k S = S
  | 0, _, _ => rfl
  | k + 1, S, h => by
    show iter succ k (step succ S) = S
    rw [step_nil h]; exact iter_nil k h
theorem iter_add {succ : V → List V} : ∀ (k l : Nat) (S : St V), iter succ (k + l) S = iter succ l (iter succ k S)
  | 0, l, S => by rw [Nat.zero_add]; rfl
  | k + 1, l, S => by rw [Nat.succ_add]; exact iter_add k l (step succ S)
theorem Ends.one {succ : V → List V} {S : St V} {L M : List (V × Nat × Bool)} (h : Ends succ S L) (h' : Ends succ S M) : L = M := by
  obtain ⟨k, h1, h2⟩ := h
  obtain ⟨l, h3, h4⟩ := h'
  have e1 := iter_add (succ := succ) k l S
  have e2 := iter_add (succ := succ) l k S
  rw [iter_nil l h1] at e1
  rw [iter_nil k h3, Nat.add_comm] at e2
  rw [← h2, ← h4, ← e1, ← e2]
end
end Go.Proofs.Ytaocomjhepgabaa
