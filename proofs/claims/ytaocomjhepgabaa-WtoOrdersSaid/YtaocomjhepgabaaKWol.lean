import Derived.Test.YtaocomjhepgabaaKWdn
set_option linter.unusedVariables false
set_option linter.unusedSimpArgs false
set_option linter.unnecessarySimpa false
/- Wol -/
namespace Go.Proofs.Ytaocomjhepgabaa
section
variable {V : Type}
def hd1 (e : V × Nat × Bool) : Nat := if e.2.2 = true then 1 else 0
/-- Within a part of depth d. -/
def Under (d : Nat) (y : V × Nat × Bool) : Prop := d < y.2.1 ∨ (y.2.1 = d ∧ y.2.2 = false)
def Chn : Nat → List (V × Nat × Bool) → Prop
  | _, [] => True
  | d, e :: r => e.2.1 ≤ d + hd1 e ∧ Chn e.2.1 r
theorem Chn.mono {d d' : Nat} (h : d ≤ d') : ∀ {l : List (V × Nat × Bool)}, Chn d l → Chn d' l
  | [], _ => trivial
  | e :: r, hc => ⟨by have := hc.1; omega, hc.2⟩
theorem Chn.append {D : Nat} {m : List (V × Nat × Bool)} (hm : Chn D m) : ∀ {d : Nat} {l : List (V × Nat × Bool)}, Chn d l → D ≤ d → (∀ e ∈ l, D ≤ e.2.1) → Chn d (l ++ m)
  | d, [], _, hd, _ => Chn.mono hd hm
  | d, e :: r, hc, _, he => ⟨hc.1, Chn.append hm hc.2 (he e List.mem_cons_self) (fun x hx => he x (List.mem_cons_of_mem _ hx))⟩
/-- Back to a head whose part holds x, which stands behind p. -/
def Back (p : List (V × Nat × Bool)) (x : V × Nat × Bool) (w : V) : Prop :=
  (x.1 = w ∧ x.2.2 = true) ∨ ∃ a e b, p = a ++ e :: b ∧ e.1 = w ∧ e.2.2 = true ∧ (∀ y ∈ b, Under e.2.1 y) ∧ Under e.2.1 x
theorem Back.left {p x} {w : V} (q : List (V × Nat × Bool)) (h : Back p x w) : Back (q ++ p) x w := by
  rcases h with h | ⟨a, e, b, h1, h2, h3, h4⟩
  · exact Or.inl h
  · exact Or.inr ⟨q ++ a, e, b, by rw [h1, List.append_assoc], h2, h3, h4⟩
structure OrdL (succ : V → List V) (D : Nat) (l : List (V × Nat × Bool)) : Prop where
  dep : ∀ e ∈ l, Under D e
  chn : Chn D l
  fwd : ∀ p x q, l = p ++ x :: q → ∀ w ∈ succ x.1, w ∈ lv q ∨ Back p x w ∨ w ∉ lv l
  hed : ∀ a e b, l = a ++ e :: b → e.2.2 = true → e.1 ∈ succ e.1 ∨ ∃ b1 x b2, b = b1 ++ x :: b2 ∧ e.1 ∈ succ x.1 ∧ (∀ y ∈ b1, Under e.2.1 y) ∧ Under e.2.1 x
theorem lv_append (a b : List (V × Nat × Bool)) : lv (a ++ b) = lv a ++ lv b := by unfold lv; rw [List.map_append]
theorem lv_cons (e : V × Nat × Bool) (b : List (V × Nat × Bool)) : lv (e :: b) = e.1 :: lv b := rfl
theorem OrdL.nil (succ : V → List V) (D : Nat) : OrdL succ D [] :=
  ⟨fun e h => (by cases h), trivial, fun p x q h => (by cases p <;> cases h), fun a e b h => (by cases a <;> cases h)⟩
/-- Where an element stands in two lists behind one another. -/
theorem split_append {α : Type} {l m p q : List α} {x : α} (h : l ++ m = p ++ x :: q) : (∃ q', l = p ++ x :: q' ∧ q = q' ++ m) ∨ (∃ p', p = l ++ p' ∧ m = p' ++ x :: q) := by
  rcases List.append_eq_append_iff.1 h with ⟨a, h1, h2⟩ | ⟨a, h1, h2⟩
  · exact Or.inr ⟨a, h1, h2⟩
  · cases a with
    | nil =>
      rw [List.append_nil] at h1
      exact Or.inr ⟨[], by rw [h1, List.append_nil], h2.symm⟩
    | cons y a =>
      rw [List.cons_append] at h2
      injection h2 with e1 e2
      subst e1
      exact Or.inl ⟨a, h1, e2⟩
theorem OrdL.append {succ : V → List V} {D : Nat} {l m : List (V × Nat × Bool)} (h : OrdL succ D l) (g : OrdL succ D m) (hno : ∀ x ∈ lv m, ∀ w ∈ succ x, w ∉ lv l) : OrdL succ D (l ++ m) where
  dep := fun e he => by
    rcases List.mem_append.1 he with he | he
    · exact h.dep e he
    · exact g.dep e he
  chn := Chn.append g.chn h.chn (Nat.le_refl _) (fun e he => by rcases h.dep e he with hh | hh <;> omega)
  fwd := fun p x q e w hw => by
    rcases split_append e with ⟨q', e1, e2⟩ | ⟨p', e1, e2⟩
    · rcases h.fwd p x q' e1 w hw with f | f | f
      · exact Or.inl (by rw [e2, lv_append]; exact List.mem_append_left _ f)
      · exact Or.inr (Or.inl f)
      · by_cases hm : w ∈ lv m
        · exact Or.inl (by rw [e2, lv_append]; exact List.mem_append_right _ hm)
        · refine Or.inr (Or.inr ?_)
          rw [lv_append, List.mem_append]
          exact fun hh => hh.elim f hm
    · have hx : x.1 ∈ lv m := by rw [e2, lv_append, lv_cons]; exact List.mem_append_right _ List.mem_cons_self
      rcases g.fwd p' x q e2 w hw with f | f | f
      · exact Or.inl f
      · exact Or.inr (Or.inl (by rw [e1]; exact f.left l))
      · refine Or.inr (Or.inr ?_)
        rw [lv_append, List.mem_append]
        exact fun hh => hh.elim (hno x.1 hx w hw) f
  hed := fun a e b eq ht => by
    rcases split_append eq with ⟨b', e1, e2⟩ | ⟨a', e1, e2⟩
    · rcases h.hed a e b' e1 ht with f | ⟨b1, x, b2, f1, f2, f3⟩
      · exact Or.inl f
      · exact Or.inr ⟨b1, x, b2 ++ m, by rw [e2, f1]; simp, f2, f3⟩
    · exact g.hed a' e b e2 ht
theorem OrdL.one {succ : V → List V} (D : Nat) (v : V) (hno : v ∉ succ v) : OrdL succ D [(v, D, false)] where
  dep := fun e he => by simp at he; subst he; exact Or.inr ⟨rfl, rfl⟩
  chn := ⟨by show D ≤ D + _; omega, trivial⟩
  fwd := fun p x q e w hw => by
    have hx : p = [] ∧ x = (v, D, false) ∧ q = [] := by
      cases p with
      | nil => injection e with e1 e2; exact ⟨rfl, e1.symm, e2.symm⟩
      | cons y p => injection e with e1 e2; cases p <;> cases e2
    obtain ⟨_, rfl, _⟩ := hx
    refine Or.inr (Or.inr ?_)
    intro hm
    have : w = v := by simpa [lv] using hm
    subst this
    exact hno hw
  hed := fun a e b eq ht => by
    have hx : e = (v, D, false) := by
      cases a with
      | nil => injection eq with e1 e2; exact e1.symm
      | cons y p => injection eq with e1 e2; cases p <;> cases e2
    subst hx
    cases ht
theorem OrdL.comp {succ : V → List V} {D : Nat} {v : V} {l : List (V × Nat × Bool)} (h : OrdL succ (D + 1) l) (harc : v ∈ succ v ∨ ∃ x ∈ lv l, v ∈ succ x) : OrdL succ D ((v, D + 1, true) :: l) where
  dep := fun e he => by
    rcases List.mem_cons.1 he with rfl | he
    · exact Or.inl (Nat.lt_succ_self D)
    · rcases h.dep e he with hh | hh
      · exact Or.inl (by omega)
      · exact Or.inl (by omega)
  chn := ⟨by show D + 1 ≤ D + 1; omega, h.chn⟩
  fwd := fun p x q e w hw => by
    cases p with
    | nil =>
      injection e with e1 e2
      subst e1 e2
      by_cases hv : w = v
      · subst hv; exact Or.inr (Or.inl (Or.inl ⟨rfl, rfl⟩))
      · by_cases hl : w ∈ lv l
        · exact Or.inl hl
        · refine Or.inr (Or.inr ?_)
          rw [lv_cons, List.mem_cons]
          exact fun hh => hh.elim hv hl
    | cons y p =>
      injection e with e1 e2
      subst e1
      rcases h.fwd p x q e2 w hw with f | f | f
      · exact Or.inl f
      · exact Or.inr (Or.inl (f.left [(v, D + 1, true)]))
      · by_cases hv : w = v
        · subst hv
          refine Or.inr (Or.inl (Or.inr ⟨[], (w, D + 1, true), p, rfl, rfl, rfl, ?_, ?_⟩))
          · intro y hy
            exact h.dep y (by rw [e2]; exact List.mem_append_left _ hy)
          · exact h.dep x (by rw [e2]; exact List.mem_append_right _ List.mem_cons_self)
        · refine Or.inr (Or.inr ?_)
          rw [lv_cons, List.mem_cons]
          exact fun hh => hh.elim hv f
  hed := fun a e b eq ht => by
    cases a with
    | nil =>
      injection eq with e1 e2
      subst e1 e2
      rcases harc with ha | ⟨x, hx, ha⟩
      · exact Or.inl ha
      · obtain ⟨y, hy, rfl⟩ := List.mem_map.1 hx
        obtain ⟨b1, b2, hb⟩ := List.append_of_mem hy
        refine Or.inr ⟨b1, y, b2, hb, ha, ?_, ?_⟩
        · intro z hz
          exact h.dep z (by rw [hb]; exact List.mem_append_left _ hz)
        · exact h.dep y hy
    | cons y a =>
      injection eq with e1 e2
      exact h.hed a e b e2 ht
end
end Go.Proofs.Ytaocomjhepgabaa
