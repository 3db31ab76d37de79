import Derived.Test.YtaocomjhepgabaaKWbe
set_option linter.unusedVariables false
set_option linter.unusedSimpArgs false
set_option linter.unnecessarySimpa false
/- Wbt -/
namespace Go.Proofs.Ytaocomjhepgabaa
section
variable {V : Type}
def mu (U : List V) (m : V → Nat) : Nat := fresh U m + nond U m * (U.length + 1)
theorem cp_lt {U : List V} {p q : V → Bool} (h : ∀ x, p x = true → q x = true) {v : V} (hv : v ∈ U) (hq : q v = true) (hp : p v = false) : U.countP p < U.countP q := by
  induction U with
  | nil => cases hv
  | cons a U ih =>
    have hle : U.countP p ≤ U.countP q := List.countP_mono_left (fun x _ hx => h x hx)
    rw [List.countP_cons, List.countP_cons]
    rcases List.mem_cons.1 hv with rfl | hv
    · rw [hp, hq]; simp; omega
    · have := ih hv
      have ha := h a
      cases hpa : p a
      · cases hqa : q a <;> simp <;> omega
      · rw [hpa] at ha
        rw [ha rfl]; simp; omega
theorem mu_lt {U : List V} {m t : V → Nat} {v : V} (hv : v ∈ U) (keep : ∀ x, t x ≠ 0 → m x = t x) (v0 : t v = 0) (vm : m v ≠ 0) : mu U m < mu U t := by
  have h1 : fresh U m < fresh U t := by
    refine cp_lt (fun x hx => ?_) hv (by simpa using v0) (by simpa using vm)
    simp only [decide_eq_true_eq] at hx ⊢
    by_cases e : t x = 0
    · exact e
    · have := keep x e; omega
  have h2 : nond U m ≤ nond U t := by
    refine List.countP_mono_left (fun x _ hx => ?_)
    simp only [decide_eq_true_eq] at hx ⊢
    intro e
    exact hx (by rw [keep x (by rw [e]; exact DONE_ne)]; exact e)
  have h3 := Nat.mul_le_mul_right (U.length + 1) h2
  unfold mu
  omega
theorem mu_lt2 {U : List V} {m t : V → Nat} {v : V} (hv : v ∈ U) (keep : ∀ x, t x ≠ 0 → m x = t x) (v0 : t v = 0) (vm : m v = DONE) : mu U m < mu U t := by
  have h2 : nond U m < nond U t := by
    refine cp_lt (fun x hx => ?_) hv (by simp only [decide_eq_true_eq]; rw [v0]; exact fun e => DONE_ne e.symm) (by simpa using vm)
    simp only [decide_eq_true_eq] at hx ⊢
    intro e
    exact hx (by rw [keep x (by rw [e]; exact DONE_ne)]; exact e)
  have h3 := Nat.mul_le_mul_right (U.length + 1) (show nond U m + 1 ≤ nond U t from h2)
  have h4 := fresh_le U m
  rw [Nat.add_mul, Nat.one_mul] at h3
  unfold mu
  omega
theorem gd_of {succ : V → List V} {U : List V} {T : St V} (g : Gr succ U) (h : Inv succ U T) (n : InvN T) {v : V} (hv : v ∈ U) (h0 : T.marks v = 0) : Gd T where
  stk := fun x hx => by
    have h1 := (h.stk x hx).2
    rcases h.mrk x with e | e
    · omega
    · exact absurd e h1.2
  num := n
  sm := by
    have h1 : 0 < fresh U T.marks := List.countP_pos_iff.2 ⟨v, hv, by simpa using h0⟩
    have h2 := h.cnt
    have h3 := g.sm
    omega
end
section
variable {V : Type} [DecidableEq V]
theorem visit_big {succ : V → List V} {U : List V} (g : Gr succ U) : ∀ (n : Nat) (T : St V) (v : V), Inv succ U T → InvN T → mu U T.marks = n → v ∈ U → T.marks v = 0 →
    ∃ k c s l, (iter succ k (visit succ v T)).calls = answered c T.calls ∧ Big succ T v (iter succ k (visit succ v T)) c.least s l ∧ Inv succ U (iter succ k (visit succ v T)) ∧ InvN (iter succ k (visit succ v T)) := by
  intro n
  induction n using Nat.strongRecOn with
  | ind n ih =>
    intro T v hI hN hn hv h0
    have gT := gd_of g hI hN hv h0
    -- the first pass
    have pass1 : ∀ (rest : List V) (S : St V) (h : Nat) (lp : Bool) (s : List V) (l : List (V × Nat × Bool)), Mid succ T v S rest h lp s l → Inv succ U S → InvN S →
        ∃ k h' lp' s' l', Mid succ T v (iter succ k S) [] h' lp' s' l' ∧ Inv succ U (iter succ k S) ∧ InvN (iter succ k S) := by
      intro rest
      induction rest with
      | nil => intro S h lp s l m i1 i2; exact ⟨0, h, lp, s, l, m, i1, i2⟩
      | cons u q ihq =>
        intro S h lp s l m i1 i2
        by_cases hu : S.marks u = 0
        · obtain ⟨huU, iS1⟩ := i1.arc g m.calls (u := u) (q := q) rfl
          have hmu : mu U S.marks < n := by
            rw [← hn]
            exact mu_lt hv m.keep m.v0 (by rw [m.vm]; omega)
          obtain ⟨k1, cu, su, lu, c1, c2, c3, c4⟩ := ih _ hmu ⟨⟨v, q, h, lp, false⟩ :: T.calls, S.stack, S.list, S.depth, S.marks, S.count⟩ u iS1 i2 rfl huU hu
          have hst : step succ S = visit succ u ⟨⟨v, q, h, lp, false⟩ :: T.calls, S.stack, S.list, S.depth, S.marks, S.count⟩ := by
            unfold step
            rw [m.calls]
            simp only
            rw [if_pos hu]
          obtain ⟨h', lp', m2⟩ := mid_visit gT m hu c2 c1
          obtain ⟨k2, h2, lp2, s2, l2, m3, i3, i4⟩ := ihq _ _ _ _ _ m2 c3 c4
          refine ⟨(k1 + 1) + k2, h2, lp2, s2, l2, ?_⟩
          rw [iter_add]
          show Mid succ T v (iter succ k2 (iter succ k1 (step succ S))) [] h2 lp2 s2 l2 ∧ _
          rw [show iter succ (k1 + 1) S = iter succ k1 (step succ S) from rfl, hst]
          exact ⟨m3, i3, i4⟩
        · obtain ⟨h', lp', m2⟩ := mid_hear gT i2 m hu
          obtain ⟨k2, h2, lp2, s2, l2, m3, i3, i4⟩ := ihq _ _ _ _ _ m2 (i1.step g) (i2.step i1)
          exact ⟨k2 + 1, h2, lp2, s2, l2, m3, i3, i4⟩
    -- the second pass
    have pass2 : ∀ (rest : List V) (S : St V) (s : List V) (l1 l2 : List (V × Nat × Bool)), Mid2 succ T v S rest s l1 l2 → Inv succ U S → InvN S →
        ∃ k l2', Mid2 succ T v (iter succ k S) [] s l1 l2' ∧ Inv succ U (iter succ k S) ∧ InvN (iter succ k S) := by
      intro rest
      induction rest with
      | nil => intro S s l1 l2 m i1 i2; exact ⟨0, l2, m, i1, i2⟩
      | cons u q ihq =>
        intro S s l1 l2 m i1 i2
        by_cases hu : S.marks u = 0
        · obtain ⟨huU, iS1⟩ := i1.arc g m.calls (u := u) (q := q) rfl
          have hmu : mu U S.marks < n := by
            rw [← hn]
            exact mu_lt2 hv m.keep m.v0 m.vm
          obtain ⟨k1, cu, su, lu, c1, c2, c3, c4⟩ := ih _ hmu ⟨⟨v, q, T.count + 1, true, true⟩ :: T.calls, S.stack, S.list, S.depth, S.marks, S.count⟩ u iS1 i2 rfl huU hu
          have hst : step succ S = visit succ u ⟨⟨v, q, T.count + 1, true, true⟩ :: T.calls, S.stack, S.list, S.depth, S.marks, S.count⟩ := by
            unfold step
            rw [m.calls]
            simp only
            rw [if_pos hu]
          have m2 := mid2_visit gT m hu c2 c1
          obtain ⟨k2, l3, m3, i3, i4⟩ := ihq _ _ _ _ m2 c3 c4
          refine ⟨(k1 + 1) + k2, l3, ?_⟩
          rw [iter_add]
          rw [show iter succ (k1 + 1) S = iter succ k1 (step succ S) from rfl, hst]
          exact ⟨m3, i3, i4⟩
        · have m2 := mid2_hear m hu
          obtain ⟨k2, l3, m3, i3, i4⟩ := ihq _ _ _ _ m2 (i1.step g) (i2.step i1)
          exact ⟨k2 + 1, l3, m3, i3, i4⟩
    have iV : Inv succ U (visit succ v T) := hI.visit g hv h0
    have nV : InvN (visit succ v T) := by
      intro x
      show upd T.marks v (T.count + 1) x = 0 ∨ upd T.marks v (T.count + 1) x = DONE ∨ x ∈ v :: T.stack
      unfold upd
      by_cases e : x = v
      · exact Or.inr (Or.inr (by rw [e]; exact List.mem_cons_self))
      · rw [if_neg e]
        rcases hN x with h | h | h
        · exact Or.inl h
        · exact Or.inr (Or.inl h)
        · exact Or.inr (Or.inr (List.mem_cons_of_mem _ h))
    obtain ⟨k, h, lp, s, l, m, i1, i2⟩ := pass1 _ _ _ _ _ _ (mid_start (succ := succ) h0) iV nV
    by_cases hh : h = T.count + 1
    · subst hh
      cases lp
      · obtain ⟨b, hc⟩ := mid_alone gT i2 m
        refine ⟨k + 1, ⟨v, [], T.count + 1, false, false⟩, [], (v, T.depth, false) :: l, ?_⟩
        rw [iter_add]
        exact ⟨hc, b, i1.step g, i2.step i1⟩
      · have m2 := mid_comp gT i2 m
        obtain ⟨k2, l2, m3, i3, i4⟩ := pass2 _ _ _ _ _ m2 (i1.step g) (i2.step i1)
        obtain ⟨b, hc⟩ := mid2_end m3
        refine ⟨k + (1 + (k2 + 1)), ⟨v, [], T.count + 1, true, true⟩, [], (v, T.depth + 1, true) :: l2 ++ l, ?_⟩
        rw [iter_add, iter_add, iter_add]
        exact ⟨hc, b, i3.step g, i4.step i3⟩
    · obtain ⟨b, hc⟩ := mid_open gT m hh
      refine ⟨k + 1, ⟨v, [], h, lp, false⟩, s ++ [v], l, ?_⟩
      rw [iter_add]
      exact ⟨hc, b, i1.step g, i2.step i1⟩
/-- P10.2, of the list that comes out. -/
theorem Ends.holds {succ : V → List V} {U : List V} (g : Gr succ U) {r : V} (hr : r ∈ U) {L : List (V × Nat × Bool)} (h : Ends succ (start succ r) L) :
    OrdL succ 0 L ∧ (∃ e L', L = e :: L' ∧ e.1 = r) ∧ (∀ x ∈ lv L, ∀ w ∈ succ x, w ∈ lv L) := by
  have hI : Inv succ U (⟨[], [], [], 0, fun _ => 0, 0⟩ : St V) := by
    have hf : fresh U (fun _ => 0) = U.length := by unfold fresh; simp
    have hn : nond U (fun _ => 0) = U.length := by
      unfold nond
      have : (fun v : V => decide ((0 : Nat) ≠ DONE)) = fun _ => true := by funext v; exact decide_eq_true (fun e => DONE_ne e.symm)
      rw [this]; simp
    exact {
      stk := fun u hu => (by cases hu)
      snd := List.nodup_nil
      sub := List.Sublist.refl _
      cls := fun c hc => (by cases hc)
      cnt := by
        show 0 + fresh U (fun _ => 0) + nond U (fun _ => 0) * (U.length + 1) ≤ _
        rw [hf, hn, show U.length + 2 = (U.length + 1) + 1 from rfl, Nat.mul_add U.length (U.length + 1) 1]
        omega
      len := Nat.le_refl _
      stl := Nat.le_refl _
      dep := rfl
      mrk := fun v => Or.inl (Nat.le_refl _) }
  have hN : InvN (⟨[], [], [], 0, fun _ => 0, 0⟩ : St V) := fun x => Or.inl rfl
  obtain ⟨k, c, s, l, c1, b, i1, i2⟩ := visit_big g _ _ r hI hN rfl hr rfl
  have hends : Ends succ (start succ r) (l ++ []) := ⟨k, c1, b.list⟩
  have hL := h.one hends
  rw [List.append_nil] at hL
  subst hL
  have hs : s = [] ∧ ∃ e l', L = e :: l' ∧ e.1 = r := by
    rcases b.hs with ⟨h1, _, h2⟩ | ⟨h1, h2⟩
    · exact ⟨h1, h2⟩
    · exfalso
      obtain ⟨x, hx, w, hw, hws, _⟩ := b.got (fun e => by rw [e] at h1; cases h1)
      cases hws
  obtain ⟨rfl, e, L', h1, h2⟩ := hs
  refine ⟨b.ord, ⟨e, L', h1, h2⟩, fun x hx w hw => ?_⟩
  have hD := b.aD x hx w hw
  by_cases hl : w ∈ lv L
  · exact hl
  · have := b.oz w rfl (by simp) hl
    rw [hD] at this
    exact absurd this DONE_ne
end
end Go.Proofs.Ytaocomjhepgabaa
