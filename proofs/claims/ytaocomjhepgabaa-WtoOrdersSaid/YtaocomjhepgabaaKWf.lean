import Derived.Test.YtaocomjhepgabaaKWn
set_option linter.unusedVariables false
set_option linter.unusedSimpArgs false
set_option linter.unnecessarySimpa false
/- Wf -/
namespace Go.Proofs.Ytaocomjhepgabaa
section
variable {V W : Type}
def mapC (f : V → W) (c : Cl V) : Cl W := ⟨f c.v, c.rest.map f, c.least, c.loop, c.second⟩
def mapL (f : V → W) (L : List (V × Nat × Bool)) : List (W × Nat × Bool) := L.map (fun x => (f x.1, x.2.1, x.2.2))
/-- f names the vertices of D anew. -/
structure Nm (f : V → W) (D : V → Prop) (succ : V → List V) (succ' : W → List W) : Prop where
  inj : ∀ a b, D a → D b → f a = f b → a = b
  cl : ∀ v, D v → ∀ u ∈ succ v, D u
  go : ∀ v, D v → succ' (f v) = (succ v).map f
structure Rel (f : V → W) (D : V → Prop) (S : St V) (T : St W) : Prop where
  calls : T.calls = S.calls.map (mapC f)
  stack : T.stack = S.stack.map f
  list : T.list = mapL f S.list
  depth : T.depth = S.depth
  count : T.count = S.count
  marks : ∀ v, D v → T.marks (f v) = S.marks v
  dc : ∀ c ∈ S.calls, D c.v ∧ ∀ u ∈ c.rest, D u
  ds : ∀ u ∈ S.stack, D u
theorem map_hear (f : V → W) (c : Cl V) (m : Nat) : hear (mapC f c) m = mapC f (hear c m) := by
  unfold hear
  show (if c.second = false ∧ m ≤ c.least then _ else _) = _
  split <;> rfl
theorem map_answered (f : V → W) (c : Cl V) (r : List (Cl V)) : answered (mapC f c) (r.map (mapC f)) = (answered c r).map (mapC f) := by
  cases r with
  | nil => rfl
  | cons d r =>
    show hear (mapC f d) c.least :: _ = mapC f (hear d c.least) :: _
    rw [map_hear]
theorem dc_hear {D : V → Prop} {c : Cl V} (m : Nat) (h : D c.v ∧ ∀ u ∈ c.rest, D u) : D (hear c m).v ∧ ∀ u ∈ (hear c m).rest, D u := by rw [hear_v, hear_rest]; exact h
theorem dc_answered {D : V → Prop} {c : Cl V} {r : List (Cl V)} (h : ∀ d ∈ r, D d.v ∧ ∀ u ∈ d.rest, D u) : ∀ d ∈ answered c r, D d.v ∧ ∀ u ∈ d.rest, D u := by
  cases r with
  | nil => intro d hd; cases hd
  | cons a r =>
    intro d hd
    rcases List.mem_cons.1 hd with rfl | hd
    · exact dc_hear _ (h a List.mem_cons_self)
    · exact h d (List.mem_cons_of_mem _ hd)
end
section
variable {V W : Type} [DecidableEq V] [DecidableEq W]
theorem map_upd {f : V → W} {D : V → Prop} (inj : ∀ a b, D a → D b → f a = f b → a = b) {m : V → Nat} {n : W → Nat} (h : ∀ v, D v → n (f v) = m v) {u : V} (hu : D u) (k : Nat) : ∀ v, D v → upd n (f u) k (f v) = upd m u k v := by
  intro v hv
  unfold upd
  by_cases e : v = u
  · subst e; simp
  · rw [if_neg e, if_neg (fun x => e (inj v u hv hu x))]; exact h v hv
theorem map_takeOff {f : V → W} {D : V → Prop} (inj : ∀ a b, D a → D b → f a = f b → a = b) {v : V} (hv : D v) : ∀ (s : List V) {m : V → Nat} {n : W → Nat}, (∀ u ∈ s, D u) → (∀ x, D x → n (f x) = m x) →
    (takeOff (f v) (s.map f) n).1 = (takeOff v s m).1.map f ∧ (∀ x, D x → (takeOff (f v) (s.map f) n).2 (f x) = (takeOff v s m).2 x) ∧ ∀ u ∈ (takeOff v s m).1, D u
  | [], m, n, _, h => ⟨rfl, map_upd inj h hv DONE, by intro u hu; cases hu⟩
  | a :: s, m, n, hs, h => by
    have ha := hs a List.mem_cons_self
    have hs' : ∀ u ∈ s, D u := fun u hu => hs u (List.mem_cons_of_mem _ hu)
    by_cases e : a = v
    · subst e
      simp only [List.map_cons, takeOff, if_true]
      exact ⟨trivial, map_upd inj h ha DONE, hs'⟩
    · have e' : ¬ f a = f v := fun x => e (inj a v ha hv x)
      simp only [List.map_cons, takeOff, if_neg e, if_neg e']
      exact map_takeOff inj hv s hs' (map_upd inj h ha 0)
theorem Rel.visit {f : V → W} {D : V → Prop} {succ : V → List V} {succ' : W → List W} (n : Nm f D succ succ') {S : St V} {T : St W} (h : Rel f D S T) {u : V} (hu : D u) : Rel f D (visit succ u S) (visit succ' (f u) T) := by
  refine ⟨?_, ?_, h.list, h.depth, ?_, ?_, ?_, ?_⟩
  · show (⟨f u, succ' (f u), T.count + 1, false, false⟩ :: T.calls : List (Cl W)) = (⟨u, succ u, S.count + 1, false, false⟩ :: S.calls : List (Cl V)).map (mapC f)
    rw [List.map_cons, ← h.calls, h.count, n.go u hu]; rfl
  · show f u :: T.stack = (u :: S.stack).map f
    rw [h.stack]; rfl
  · show T.count + 1 = S.count + 1
    rw [h.count]
  · intro v hv
    show upd T.marks (f u) (T.count + 1) (f v) = upd S.marks u (S.count + 1) v
    rw [h.count]
    exact map_upd n.inj h.marks hu _ v hv
  · intro c hc
    rcases List.mem_cons.1 hc with rfl | hc
    · exact ⟨hu, n.cl u hu⟩
    · exact h.dc c hc
  · intro x hx
    rcases List.mem_cons.1 hx with rfl | hx
    · exact hu
    · exact h.ds x hx
theorem Rel.step {f : V → W} {D : V → Prop} {succ : V → List V} {succ' : W → List W} (n : Nm f D succ succ') {S : St V} {T : St W} (h : Rel f D S T) : Rel f D (step succ S) (step succ' T) := by
  have hcs := h.calls
  cases hS : S.calls with
  | nil =>
    have hT : T.calls = [] := by rw [hcs, hS]; rfl
    rw [step_nil hS, step_nil hT]; exact h
  | cons c r =>
    have hc := h.dc c (by rw [hS]; exact List.mem_cons_self)
    have hr : ∀ d ∈ r, D d.v ∧ ∀ u ∈ d.rest, D u := fun d hd => h.dc d (by rw [hS]; exact List.mem_cons_of_mem _ hd)
    have hT : T.calls = mapC f c :: r.map (mapC f) := by rw [hcs, hS]; rfl
    unfold Go.Proofs.Ytaocomjhepgabaa.step
    rw [hS, hT]
    cases hq : c.rest with
    | nil =>
      have hq' : (mapC f c).rest = [] := by show c.rest.map f = []; rw [hq]; rfl
      simp only [hq', hq]
      unfold through
      by_cases h2 : c.second = true
      · have h2' : (mapC f c).second = true := h2
        rw [if_pos h2, if_pos h2']
        refine ⟨map_answered f c r, h.stack, ?_, ?_, h.count, h.marks, dc_answered hr, h.ds⟩
        · show (f c.v, T.depth, true) :: T.list = mapL f ((c.v, S.depth, true) :: S.list)
          rw [h.list, h.depth]; rfl
        · show T.depth - 1 = S.depth - 1
          rw [h.depth]
      · have h2' : ¬ (mapC f c).second = true := h2
        rw [if_neg h2, if_neg h2']
        have hm : T.marks (f c.v) = S.marks c.v := h.marks c.v hc.1
        by_cases h3 : c.least = S.marks c.v
        · have h3' : (mapC f c).least = T.marks (mapC f c).v := by show c.least = T.marks (f c.v); rw [hm]; exact h3
          rw [if_pos h3, if_pos h3']
          have ht := map_takeOff n.inj hc.1 S.stack h.ds h.marks
          rw [← h.stack] at ht
          by_cases h4 : c.loop = true
          · have h4' : (mapC f c).loop = true := h4
            rw [if_pos h4, if_pos h4']
            refine ⟨?_, ht.1, h.list, ?_, h.count, ht.2.1, ?_, ht.2.2⟩
            · show (⟨f c.v, succ' (f c.v), c.least, c.loop, true⟩ :: r.map (mapC f) : List (Cl W)) = _
              rw [n.go c.v hc.1]; rfl
            · show T.depth + 1 = S.depth + 1
              rw [h.depth]
            · intro x hx
              rcases List.mem_cons.1 hx with rfl | hx
              · exact ⟨hc.1, n.cl c.v hc.1⟩
              · exact hr x hx
          · have h4' : ¬ (mapC f c).loop = true := h4
            rw [if_neg h4, if_neg h4']
            refine ⟨map_answered f c r, ht.1, ?_, h.depth, h.count, ht.2.1, dc_answered hr, ht.2.2⟩
            show (f c.v, T.depth, false) :: T.list = mapL f ((c.v, S.depth, false) :: S.list)
            rw [h.list, h.depth]; rfl
        · have h3' : ¬ (mapC f c).least = T.marks (mapC f c).v := by show ¬ c.least = T.marks (f c.v); rw [hm]; exact h3
          rw [if_neg h3, if_neg h3']
          exact ⟨map_answered f c r, h.stack, h.list, h.depth, h.count, h.marks, dc_answered hr, h.ds⟩
    | cons u q =>
      have hq' : (mapC f c).rest = f u :: q.map f := by show c.rest.map f = _; rw [hq]; rfl
      have hu : D u := hc.2 u (by rw [hq]; exact List.mem_cons_self)
      have hq2 : ∀ x ∈ q, D x := fun x hx => hc.2 x (by rw [hq]; exact List.mem_cons_of_mem _ hx)
      have hm := h.marks u hu
      simp only [hq', hq, hm]
      by_cases h0 : S.marks u = 0
      · rw [if_pos h0, if_pos h0]
        have h' : Rel f D (⟨⟨c.v, q, c.least, c.loop, c.second⟩ :: r, S.stack, S.list, S.depth, S.marks, S.count⟩ : St V) (⟨mapC f ⟨c.v, q, c.least, c.loop, c.second⟩ :: r.map (mapC f), T.stack, T.list, T.depth, T.marks, T.count⟩ : St W) := ⟨rfl, h.stack, h.list, h.depth, h.count, h.marks, ?_, h.ds⟩
        exact h'.visit n hu
        intro x hx
        rcases List.mem_cons.1 hx with rfl | hx
        · exact ⟨hc.1, hq2⟩
        · exact hr x hx
      · rw [if_neg h0, if_neg h0]
        refine ⟨?_, h.stack, h.list, h.depth, h.count, h.marks, ?_, h.ds⟩
        · show hear (mapC f ⟨c.v, q, c.least, c.loop, c.second⟩) (S.marks u) :: r.map (mapC f) = _
          rw [map_hear]; rfl
        · intro x hx
          rcases List.mem_cons.1 hx with rfl | hx
          · exact dc_hear _ ⟨hc.1, hq2⟩
          · exact hr x hx
theorem Rel.iter {f : V → W} {D : V → Prop} {succ : V → List V} {succ' : W → List W} (n : Nm f D succ succ') : ∀ (k : Nat) {S : St V} {T : St W}, Rel f D S T → Rel f D (iter succ k S) (iter succ' k T)
  | 0, _, _, h => h
  | k + 1, _, _, h => Rel.iter n k (h.step n)
theorem Rel.start {f : V → W} {D : V → Prop} {succ : V → List V} {succ' : W → List W} (n : Nm f D succ succ') {r : V} (hr : D r) : Rel f D (start succ r) (start succ' (f r)) :=
  Rel.visit n ⟨rfl, rfl, rfl, rfl, rfl, fun _ _ => rfl, by simp, by simp⟩ hr
theorem Ends.map {f : V → W} {D : V → Prop} {succ : V → List V} {succ' : W → List W} (n : Nm f D succ succ') {r : V} (hr : D r) {L : List (V × Nat × Bool)} (h : Ends succ (start succ r) L) : Ends succ' (start succ' (f r)) (mapL f L) := by
  obtain ⟨k, h1, h2⟩ := h
  have := Rel.iter n k (Rel.start n hr)
  exact ⟨k, by rw [this.calls, h1]; rfl, by rw [this.list, h2]⟩
end
end Go.Proofs.Ytaocomjhepgabaa
