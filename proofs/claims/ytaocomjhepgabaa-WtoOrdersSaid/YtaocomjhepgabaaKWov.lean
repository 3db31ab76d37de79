import Derived.Test.YtaocomjhepgabaaKWrc
set_option linter.unusedVariables false
set_option linter.unusedSimpArgs false
set_option linter.unnecessarySimpa false
/- Wov -/
namespace Go.Proofs.Ytaocomjhepgabaa
section
variable {V : Type}
/-- S goes on over T: p calls, s on the stack, l in the list above T's. -/
structure Ov (T S : St V) (p : List (Cl V)) (s : List V) (l : List (V × Nat × Bool)) : Prop where
  stack : S.stack = s ++ T.stack
  list : S.list = l ++ T.list
  zero : ∀ x ∈ s, T.marks x = 0
  keep : ∀ x, T.marks x ≠ 0 → S.marks x = T.marks x
  sub : List.Sublist (fp p) s
end
section
variable {V : Type} [DecidableEq V]
theorem takeOff_app (v : V) (t : List V) : ∀ (s : List V) (m : V → Nat), v ∈ s → (takeOff v (s ++ t) m).1 = (takeOff v s m).1 ++ t ∧ (takeOff v (s ++ t) m).2 = (takeOff v s m).2
  | [], m, h => by cases h
  | u :: s, m, h => by
    by_cases e : u = v
    · simp [takeOff, e]
    · have h' : v ∈ s := by
        rcases List.mem_cons.1 h with h | h
        · exact absurd h.symm e
        · exact h
      simp only [List.cons_append, takeOff, if_neg e]
      exact takeOff_app v t s _ h'
theorem takeOff_keep (v : V) : ∀ (s : List V) (m : V → Nat) (x : V), x ∉ s → x ≠ v → (takeOff v s m).2 x = m x
  | [], m, x, _, h2 => by simp [takeOff, upd, h2]
  | u :: s, m, x, h1, h2 => by
    have hu : ¬ x = u := fun e => h1 (by simp [e])
    by_cases e : u = v
    · simp [takeOff, e, upd, h2]
    · simp only [takeOff, if_neg e]
      rw [takeOff_keep v s _ x (fun h => h1 (List.mem_cons_of_mem _ h)) h2]
      simp [upd, hu]
theorem takeOff_sub (v : V) (q : List V) : ∀ (s : List V) (m : V → Nat), List.Sublist (v :: q) s → List.Sublist q (takeOff v s m).1 ∧ ∀ x ∈ (takeOff v s m).1, x ∈ s
  | [], m, h => by cases h
  | u :: s, m, h => by
    by_cases e : u = v
    · subst e
      simp only [takeOff, if_true]
      exact ⟨List.cons_sublist_cons.1 h, fun x hx => List.mem_cons_of_mem _ hx⟩
    · simp only [takeOff, if_neg e]
      have h' : List.Sublist (v :: q) s := by
        rcases List.sublist_cons_iff.1 h with h | ⟨l, e1, _⟩
        · exact h
        · injection e1 with e1 _; exact absurd e1.symm e
      have ih := takeOff_sub v q s (upd m u 0) h'
      exact ⟨ih.1, fun x hx => List.mem_cons_of_mem _ (ih.2 x hx)⟩
/-- A step of the top one of p: either p goes on, or it was alone and is answered. -/
theorem Ov.step {succ : V → List V} {T S : St V} {c : Cl V} {p : List (Cl V)} {s : List V} {l : List (V × Nat × Bool)} (o : Ov T S (c :: p) s l) (e : S.calls = c :: (p ++ T.calls)) :
    (∃ p' s' l', p' ≠ [] ∧ Ov T (step succ S) p' s' l' ∧ (step succ S).calls = p' ++ T.calls) ∨ (p = [] ∧ (step succ S).calls = answered c T.calls ∧ ∃ s' l', Ov T (step succ S) [] s' l') := by
  have hsub := o.sub
  rw [fp_cons] at hsub
  have hfp : List.Sublist (fp p) s := by
    split at hsub
    · exact hsub
    · exact (List.sublist_cons_self _ _).trans hsub
  -- behind an answer
  have ans : ∀ (S' : St V) (s' : List V) (l' : List (V × Nat × Bool)), S'.calls = answered c (p ++ T.calls) → S'.stack = s' ++ T.stack → S'.list = l' ++ T.list → (∀ x ∈ s', T.marks x = 0) → (∀ x, T.marks x ≠ 0 → S'.marks x = T.marks x) → List.Sublist (fp p) s' →
      (∃ p' s' l', p' ≠ [] ∧ Ov T S' p' s' l' ∧ S'.calls = p' ++ T.calls) ∨ (p = [] ∧ S'.calls = answered c T.calls ∧ ∃ s' l', Ov T S' [] s' l') := by
    intro S' s' l' h1 h2 h3 h4 h5 h6
    cases p with
    | nil => exact .inr ⟨rfl, h1, s', l', ⟨h2, h3, h4, h5, h6⟩⟩
    | cons d p => exact .inl ⟨hear d c.least :: p, s', l', by simp, ⟨h2, h3, h4, h5, by rw [fp_hear]; exact h6⟩, by rw [h1]; rfl⟩
  unfold Go.Proofs.Ytaocomjhepgabaa.step
  rw [e]
  cases hq : c.rest with
  | nil =>
    simp only [hq]
    unfold through
    split
    · exact ans _ s ((c.v, S.depth, true) :: l) rfl o.stack (by show _ :: S.list = _; rw [o.list]; rfl) o.zero o.keep hfp
    · rename_i h2
      rw [if_neg h2] at hsub
      have hvs : c.v ∈ s := hsub.subset List.mem_cons_self
      have hv0 : T.marks c.v = 0 := o.zero _ hvs
      obtain ⟨t1, t2⟩ := takeOff_app c.v T.stack s S.marks hvs
      obtain ⟨t3, t4⟩ := takeOff_sub c.v (fp p) s S.marks hsub
      have hst : (takeOff c.v S.stack S.marks).1 = (takeOff c.v s S.marks).1 ++ T.stack := by rw [o.stack]; exact t1
      have hmk : (takeOff c.v S.stack S.marks).2 = (takeOff c.v s S.marks).2 := by rw [o.stack]; exact t2
      have hzero : ∀ x ∈ (takeOff c.v s S.marks).1, T.marks x = 0 := fun x hx => o.zero x (t4 x hx)
      have hkeep : ∀ x, T.marks x ≠ 0 → (takeOff c.v S.stack S.marks).2 x = T.marks x := fun x hx => by
        rw [hmk, takeOff_keep c.v s S.marks x (fun h => hx (o.zero x h)) (fun h => hx (by rw [h]; exact hv0))]
        exact o.keep x hx
      split
      · split
        · exact .inl ⟨⟨c.v, succ c.v, c.least, c.loop, true⟩ :: p, (takeOff c.v s S.marks).1, l, by simp, ⟨hst, o.list, hzero, hkeep, by rw [fp_cons, if_pos rfl]; exact t3⟩, rfl⟩
        · exact ans _ (takeOff c.v s S.marks).1 ((c.v, S.depth, false) :: l) rfl hst (by show _ :: S.list = _; rw [o.list]; rfl) hzero hkeep t3
      · exact ans _ s l rfl o.stack o.list o.zero o.keep hfp
  | cons u q =>
    simp only [hq]
    split
    · rename_i h0
      have hu0 : T.marks u = 0 := by
        by_cases hx : T.marks u = 0
        · exact hx
        · have := o.keep u hx; rw [h0] at this; exact this.symm
      refine .inl ⟨⟨u, succ u, S.count + 1, false, false⟩ :: ⟨c.v, q, c.least, c.loop, c.second⟩ :: p, u :: s, l, by simp, ⟨?_, o.list, ?_, ?_, ?_⟩, rfl⟩
      · show u :: S.stack = _; rw [o.stack]; rfl
      · intro x hx
        rcases List.mem_cons.1 hx with rfl | hx
        · exact hu0
        · exact o.zero x hx
      · intro x hx
        show upd S.marks u _ x = _
        unfold upd
        rw [if_neg (fun h => hx (by rw [h]; exact hu0))]
        exact o.keep x hx
      · rw [fp_cons, if_neg (by simp), fp_cons]
        refine List.Sublist.cons_cons u ?_
        exact hsub
    · refine .inl ⟨hear ⟨c.v, q, c.least, c.loop, c.second⟩ (S.marks u) :: p, s, l, by simp, ⟨o.stack, o.list, o.zero, o.keep, ?_⟩, rfl⟩
      rw [fp_hear, fp_cons]; exact hsub
end
end Go.Proofs.Ytaocomjhepgabaa
