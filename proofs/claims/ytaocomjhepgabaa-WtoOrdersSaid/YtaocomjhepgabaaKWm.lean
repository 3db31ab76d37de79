import Derived.KernelRfl
set_option linter.unusedVariables false
set_option linter.unusedSimpArgs false
set_option linter.unnecessarySimpa false
/- Wm -/
namespace Go.Proofs.Ytaocomjhepgabaa
def DONE : Nat := 9223372036854775807
structure Cl (V : Type) where
  v : V
  rest : List V
  least : Nat
  loop : Bool
  second : Bool
structure St (V : Type) where
  calls : List (Cl V)
  stack : List V
  list : List (V × Nat × Bool)
  depth : Nat
  marks : V → Nat
  count : Nat
section
variable {V : Type}
def hear (c : Cl V) (m : Nat) : Cl V := if c.second = false ∧ m ≤ c.least then ⟨c.v, c.rest, m, true, c.second⟩ else c
def answered (c : Cl V) : List (Cl V) → List (Cl V)
  | [] => []
  | d :: r => hear d c.least :: r
def fresh (U : List V) (m : V → Nat) : Nat := U.countP (fun v => decide (m v = 0))
def nond (U : List V) (m : V → Nat) : Nat := U.countP (fun v => decide (m v ≠ DONE))
def fp (cs : List (Cl V)) : List V := (cs.filter (fun c => !c.second)).map (·.v)
theorem fp_cons (c : Cl V) (r : List (Cl V)) : fp (c :: r) = if c.second = true then fp r else c.v :: fp r := by
  unfold fp
  cases h : c.second <;> simp [h]
theorem hear_v (c : Cl V) (m : Nat) : (hear c m).v = c.v := by unfold hear; split <;> rfl
theorem hear_rest (c : Cl V) (m : Nat) : (hear c m).rest = c.rest := by unfold hear; split <;> rfl
theorem hear_second (c : Cl V) (m : Nat) : (hear c m).second = c.second := by unfold hear; split <;> rfl
theorem hear_least (c : Cl V) (m : Nat) : (hear c m).least ≤ c.least := by
  unfold hear; split
  · rename_i h; exact h.2
  · exact Nat.le_refl _
theorem len_answered (c : Cl V) (r : List (Cl V)) : (answered c r).length = r.length := by cases r <;> rfl
theorem fresh_le (U : List V) (m : V → Nat) : fresh U m ≤ U.length := List.countP_le_length
structure Inv (succ : V → List V) (U : List V) (S : St V) : Prop where
  stk : ∀ u ∈ S.stack, u ∈ U ∧ S.marks u ≠ 0 ∧ S.marks u ≠ DONE
  snd : S.stack.Nodup
  sub : List.Sublist (fp S.calls) S.stack
  cls : ∀ c ∈ S.calls, c.v ∈ U ∧ (∃ p, succ c.v = p ++ c.rest) ∧ c.least ≤ S.count
  cnt : S.count + fresh U S.marks + nond U S.marks * (U.length + 1) ≤ U.length * (U.length + 2)
  len : S.list.length + S.calls.length ≤ S.count
  stl : S.stack.length ≤ S.count
  dep : S.depth = (S.calls.filter (fun c => c.second)).length
  mrk : ∀ v, S.marks v ≤ S.count ∨ S.marks v = DONE
/-- A graph within U. -/
structure Gr (succ : V → List V) (U : List V) : Prop where
  nd : U.Nodup
  cl : ∀ v ∈ U, ∀ u ∈ succ v, u ∈ U
  sm : U.length * (U.length + 2) < DONE

theorem Inv.small {succ : V → List V} {U : List V} {S : St V} (h : Inv succ U S) (g : Gr succ U) : S.count < DONE := by
  have := h.cnt; have := g.sm; omega
theorem Inv.top {succ : V → List V} {U : List V} {S : St V} (h : Inv succ U S) {c : Cl V} {r : List (Cl V)} (e : S.calls = c :: r) (h2 : c.second = false) : c.v ∈ S.stack := by
  have := h.sub
  rw [e, fp_cons, if_neg (by simp [h2])] at this
  exact this.subset List.mem_cons_self
theorem fp_hear (c : Cl V) (m : Nat) (r : List (Cl V)) : fp (hear c m :: r) = fp (c :: r) := by rw [fp_cons, fp_cons, hear_second, hear_v]
theorem fp_answered (c : Cl V) (r : List (Cl V)) : fp (answered c r) = fp r := by
  cases r with
  | nil => rfl
  | cons d r => exact fp_hear d c.least r
theorem sec_hear (c : Cl V) (m : Nat) (r : List (Cl V)) : ((hear c m :: r).filter (fun c => c.second)).length = ((c :: r).filter (fun c => c.second)).length := by
  cases h : c.second <;> simp [h, hear_second]
theorem sec_answered (c : Cl V) (r : List (Cl V)) : ((answered c r).filter (fun c => c.second)).length = (r.filter (fun c => c.second)).length := by
  cases r with
  | nil => rfl
  | cons d r => exact sec_hear d c.least r
theorem cls_answered {succ : V → List V} {U : List V} {n : Nat} {c : Cl V} {r : List (Cl V)} (h : ∀ d ∈ r, d.v ∈ U ∧ (∃ p, succ d.v = p ++ d.rest) ∧ d.least ≤ n) : ∀ d ∈ answered c r, d.v ∈ U ∧ (∃ p, succ d.v = p ++ d.rest) ∧ d.least ≤ n := by
  cases r with
  | nil => intro d hd; cases hd
  | cons a r =>
    intro d hd
    rcases List.mem_cons.1 hd with rfl | hd
    · have := h a List.mem_cons_self
      rw [hear_v, hear_rest]
      exact ⟨this.1, this.2.1, Nat.le_trans (hear_least _ _) this.2.2⟩
    · exact h d (List.mem_cons_of_mem _ hd)
end
section
variable {V : Type} [DecidableEq V]
def upd (m : V → Nat) (u : V) (k : Nat) : V → Nat := fun x => if x = u then k else m x
def takeOff (v : V) : List V → (V → Nat) → List V × (V → Nat)
  | [], m => ([], upd m v DONE)
  | u :: s, m => if u = v then (s, upd m v DONE) else takeOff v s (upd m u 0)
def visit (succ : V → List V) (v : V) (S : St V) : St V :=
  ⟨⟨v, succ v, S.count + 1, false, false⟩ :: S.calls, v :: S.stack, S.list, S.depth, upd S.marks v (S.count + 1), S.count + 1⟩
def through (succ : V → List V) (c : Cl V) (r : List (Cl V)) (S : St V) : St V :=
  if c.second = true then ⟨answered c r, S.stack, (c.v, S.depth, true) :: S.list, S.depth - 1, S.marks, S.count⟩
  else if c.least = S.marks c.v then
    (if c.loop = true then ⟨⟨c.v, succ c.v, c.least, c.loop, true⟩ :: r, (takeOff c.v S.stack S.marks).1, S.list, S.depth + 1, (takeOff c.v S.stack S.marks).2, S.count⟩
     else ⟨answered c r, (takeOff c.v S.stack S.marks).1, (c.v, S.depth, false) :: S.list, S.depth, (takeOff c.v S.stack S.marks).2, S.count⟩)
  else ⟨answered c r, S.stack, S.list, S.depth, S.marks, S.count⟩
def step (succ : V → List V) (S : St V) : St V :=
  match S.calls with
  | [] => S
  | c :: r => match c.rest with
    | [] => through succ c r S
    | u :: q =>
      if S.marks u = 0 then visit succ u ⟨⟨c.v, q, c.least, c.loop, c.second⟩ :: r, S.stack, S.list, S.depth, S.marks, S.count⟩
      else ⟨hear ⟨c.v, q, c.least, c.loop, c.second⟩ (S.marks u) :: r, S.stack, S.list, S.depth, S.marks, S.count⟩
def iter (succ : V → List V) : Nat → St V → St V
  | 0, S => S
  | k + 1, S => iter succ k (step succ S)
def start (succ : V → List V) (r : V) : St V := visit succ r ⟨[], [], [], 0, fun _ => 0, 0⟩
/-- The run from S ends with the list L. -/
def Ends (succ : V → List V) (S : St V) (L : List (V × Nat × Bool)) : Prop := ∃ k, (iter succ k S).calls = [] ∧ (iter succ k S).list = L

theorem cp_same (p : Nat → Bool) (m : V → Nat) (u : V) (k : Nat) (h : p k = p (m u)) (U : List V) : U.countP (fun v => p (upd m u k v)) = U.countP (fun v => p (m v)) := by
  apply List.countP_congr
  intro v _
  unfold upd
  split
  · rename_i e; subst e; rw [h]
  · rfl
theorem cp_far (p : Nat → Bool) (m : V → Nat) (u : V) (k : Nat) (U : List V) (hu : u ∉ U) : U.countP (fun v => p (upd m u k v)) = U.countP (fun v => p (m v)) := by
  apply List.countP_congr
  intro v hv
  unfold upd
  split
  · rename_i e; subst e; exact absurd hv hu
  · rfl
theorem cp_drop (p : Nat → Bool) (m : V → Nat) (u : V) (k : Nat) (h1 : p (m u) = true) (h2 : p k = false) (U : List V) (nd : U.Nodup) (hu : u ∈ U) : U.countP (fun v => p (upd m u k v)) + 1 = U.countP (fun v => p (m v)) := by
  induction U with
  | nil => cases hu
  | cons a U ih =>
    rw [List.nodup_cons] at nd
    by_cases e : a = u
    · subst e
      have hf := cp_far p m a k U nd.1
      rw [List.countP_cons, List.countP_cons, hf]
      simp [upd, h1, h2]
    · have hu' : u ∈ U := by
        rcases List.mem_cons.1 hu with h | h
        · exact absurd h.symm e
        · exact h
      have := ih nd.2 hu'
      have ea : upd m u k a = m a := if_neg e
      rw [List.countP_cons, List.countP_cons, ea]
      omega
/-- What is taken off: the stack ahead of v is left, and only what was on the stack is marked anew. -/
theorem takeOff_spec (v : V) : ∀ (s : List V) (m : V → Nat), v ∈ s → s.Nodup → (∀ u ∈ s, m u ≠ 0 ∧ m u ≠ DONE) →
    ∃ a b, s = a ++ v :: b ∧ v ∉ a ∧ (takeOff v s m).1 = b ∧ (∀ x, (takeOff v s m).2 x = if x = v then DONE else if x ∈ a then 0 else m x)
  | [], m, hv, _, _ => by cases hv
  | u :: s, m, hv, nd, hm => by
    rw [List.nodup_cons] at nd
    by_cases e : u = v
    · subst e
      refine ⟨[], s, rfl, by simp, by simp [takeOff], fun x => ?_⟩
      simp [takeOff, upd]
    · have hv' : v ∈ s := by
        rcases List.mem_cons.1 hv with h | h
        · exact absurd h.symm e
        · exact h
      obtain ⟨a, b, h1, h2, h3, h4⟩ := takeOff_spec v s (upd m u 0) hv' nd.2 (fun x hx => by
        have hne : x ≠ u := fun e => nd.1 (e ▸ hx)
        simp only [upd, if_neg hne]
        exact hm x (List.mem_cons_of_mem _ hx))
      refine ⟨u :: a, b, by rw [h1]; rfl, by simp [h2]; exact fun h => e h.symm, by simp [takeOff, e, h3], fun x => ?_⟩
      simp only [takeOff, if_neg e, h4]
      by_cases x1 : x = v
      · simp [x1]
      · by_cases x2 : x ∈ a
        · simp [x1, x2]
        · by_cases x3 : x = u
          · simp [x1, x2, x3, upd]
          · simp [x1, x2, x3, upd]
theorem nond_off (v : V) (U : List V) (nd : U.Nodup) (hU : v ∈ U) : ∀ (s : List V) (m : V → Nat), v ∈ s → s.Nodup → (∀ u ∈ s, m u ≠ 0 ∧ m u ≠ DONE) → nond U (takeOff v s m).2 + 1 = nond U m
  | [], m, hv, _, _ => by cases hv
  | u :: s, m, hv, nds, hm => by
    rw [List.nodup_cons] at nds
    by_cases e : u = v
    · subst e
      simp only [takeOff, if_true]
      exact cp_drop (fun k => decide (k ≠ DONE)) m u DONE (by simpa using (hm u List.mem_cons_self).2) (by simp) U nd hU
    · have hv' : v ∈ s := by
        rcases List.mem_cons.1 hv with h | h
        · exact absurd h.symm e
        · exact h
      simp only [takeOff, if_neg e]
      rw [nond_off v U nd hU s (upd m u 0) hv' nds.2 (fun x hx => by
        have hne : x ≠ u := fun e => nds.1 (e ▸ hx)
        simp only [upd, if_neg hne]
        exact hm x (List.mem_cons_of_mem _ hx))]
      exact cp_same (fun k => decide (k ≠ DONE)) m u 0 (by
        have := (hm u List.mem_cons_self).2
        rw [decide_eq_true this]; decide) U
theorem Inv.off {succ : V → List V} {U : List V} {S : St V} (h : Inv succ U S) (g : Gr succ U) {c : Cl V} {r : List (Cl V)} (e : S.calls = c :: r) (h2 : c.second = false) :
    (∀ u ∈ (takeOff c.v S.stack S.marks).1, u ∈ U ∧ (takeOff c.v S.stack S.marks).2 u ≠ 0 ∧ (takeOff c.v S.stack S.marks).2 u ≠ DONE) ∧ (takeOff c.v S.stack S.marks).1.Nodup ∧ List.Sublist (fp r) (takeOff c.v S.stack S.marks).1 ∧
    nond U (takeOff c.v S.stack S.marks).2 + 1 = nond U S.marks ∧ (takeOff c.v S.stack S.marks).1.length ≤ S.stack.length ∧ (∀ v, (takeOff c.v S.stack S.marks).2 v ≤ S.count ∨ (takeOff c.v S.stack S.marks).2 v = DONE) := by
  have ht := h.top e h2
  have hU := (h.stk _ ht).1
  have hm : ∀ u ∈ S.stack, S.marks u ≠ 0 ∧ S.marks u ≠ DONE := fun u hu => (h.stk u hu).2
  obtain ⟨a, b, h1, h3, h4, h5⟩ := takeOff_spec c.v S.stack S.marks ht h.snd hm
  have hnd := h.snd
  rw [h1] at hnd
  have hsub := h.sub
  rw [e, fp_cons, if_neg (by simp [h2]), h1] at hsub
  rw [h4]
  refine ⟨fun u hu => ?_, ?_, ?_, nond_off c.v U g.nd hU S.stack S.marks ht h.snd hm, by rw [h1]; simp; omega, fun v => ?_⟩
  · have hus : u ∈ S.stack := by rw [h1]; exact List.mem_append_right _ (List.mem_cons_of_mem _ hu)
    have hd := List.nodup_append.1 hnd
    have n1 : u ≠ c.v := fun e => by
      have := (List.nodup_cons.1 hd.2.1).1
      exact this (e ▸ hu)
    have n2 : u ∉ a := fun ha => hd.2.2 u ha u (List.mem_cons_of_mem _ hu) rfl
    rw [h5, if_neg n1, if_neg n2]
    exact h.stk u hus
  · exact (List.nodup_cons.1 (List.nodup_append.1 hnd).2.1).2
  · have key : ∀ (a : List V), c.v ∉ a → List.Sublist (c.v :: fp r) (a ++ c.v :: b) → List.Sublist (fp r) b := by
      intro a
      induction a with
      | nil => intro _ h; exact List.cons_sublist_cons.1 h
      | cons x a ih =>
        intro hn hs
        rw [List.cons_append] at hs
        have hx : ¬ c.v = x := fun e => hn (by simp [e])
        rcases List.sublist_cons_iff.1 hs with hs | ⟨l, e1, _⟩
        · exact ih (fun h => hn (List.mem_cons_of_mem _ h)) hs
        · injection e1 with e1 _; exact absurd e1 hx
    exact key a h3 hsub
  · rw [h5]
    split
    · exact Or.inr rfl
    · split
      · exact Or.inl (Nat.zero_le _)
      · exact h.mrk v
end
end Go.Proofs.Ytaocomjhepgabaa
