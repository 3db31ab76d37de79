import Derived.Test.YtaocomjhepgabaaKWol
import Derived.Test.YtaocomjhepgabaaKWov
set_option linter.unusedVariables false
set_option linter.unusedSimpArgs false
set_option linter.unnecessarySimpa false
/- Wbg -/
namespace Go.Proofs.Ytaocomjhepgabaa
section
variable {V : Type}
structure Big (succ : V → List V) (T : St V) (v : V) (S : St V) (h : Nat) (s : List V) (l : List (V × Nat × Bool)) : Prop where
  stack : S.stack = s ++ T.stack
  list : S.list = l ++ T.list
  depth : S.depth = T.depth
  cnt : T.count < S.count
  keep : ∀ x, T.marks x ≠ 0 → S.marks x = T.marks x
  sz : ∀ x ∈ s, T.marks x = 0 ∧ T.count < S.marks x ∧ S.marks x ≠ DONE
  lz : ∀ x ∈ lv l, T.marks x = 0 ∧ S.marks x = DONE
  oz : ∀ x, T.marks x = 0 → x ∉ s → x ∉ lv l → S.marks x = 0
  a0 : ∀ x, x ∈ s ∨ x ∈ lv l → ∀ w ∈ succ x, S.marks w ≠ 0
  aD : ∀ x ∈ lv l, ∀ w ∈ succ x, S.marks w = DONE
  hs : (s = [] ∧ T.count < h ∧ ∃ e l', l = e :: l' ∧ e.1 = v) ∨ (v ∈ s ∧ h ≤ T.count)
  low : ∀ x ∈ s, ∀ w ∈ succ x, w ∈ T.stack → h ≤ T.marks w
  got : s ≠ [] → ∃ x ∈ s, ∃ w ∈ succ x, w ∈ T.stack ∧ T.marks w = h
  fence : ∀ F : V → Prop, F v → (∀ x, F x → ∀ w ∈ succ x, F w ∨ T.marks w ≠ 0) → ∀ x, x ∈ s ∨ x ∈ lv l → F x
  reach : ∀ C : V → Prop, C v → (∀ x ∈ s, C x → ∀ w ∈ succ x, w ∈ s → C w) → ∀ x ∈ s, C x
  ord : OrdL succ T.depth l
/-- A visit on its way, in its first pass. -/
structure Mid (succ : V → List V) (T : St V) (v : V) (S : St V) (rest : List V) (h : Nat) (lp : Bool) (s : List V) (l : List (V × Nat × Bool)) : Prop where
  calls : S.calls = ⟨v, rest, h, lp, false⟩ :: T.calls
  stack : S.stack = s ++ v :: T.stack
  list : S.list = l ++ T.list
  depth : S.depth = T.depth
  cnt : T.count < S.count
  keep : ∀ x, T.marks x ≠ 0 → S.marks x = T.marks x
  v0 : T.marks v = 0
  vm : S.marks v = T.count + 1
  sz : ∀ x ∈ s, T.marks x = 0 ∧ T.count + 1 < S.marks x ∧ S.marks x ≠ DONE
  lz : ∀ x ∈ lv l, T.marks x = 0 ∧ S.marks x = DONE
  oz : ∀ x, T.marks x = 0 → x ≠ v → x ∉ s → x ∉ lv l → S.marks x = 0
  a0 : ∀ x, x ∈ s ∨ x ∈ lv l → ∀ w ∈ succ x, S.marks w ≠ 0
  aD : ∀ x ∈ lv l, ∀ w ∈ succ x, S.marks w = DONE
  seen : ∃ p, succ v = p ++ rest ∧ ∀ w ∈ p, S.marks w ≠ 0 ∧ (w ∈ T.stack → h ≤ T.marks w) ∧ (w = v → lp = true ∨ h ≤ T.count)
  le : h ≤ T.count + 1
  low : ∀ x ∈ s, ∀ w ∈ succ x, w ∈ T.stack → h ≤ T.marks w
  got : h ≤ T.count → ∃ x, (x ∈ s ∨ x = v) ∧ ∃ w ∈ succ x, w ∈ T.stack ∧ T.marks w = h
  lp1 : h = T.count + 1 → lp = true → ∃ x, (x ∈ s ∨ x = v) ∧ v ∈ succ x
  lp0 : h = T.count + 1 → lp = false → s = []
  fence : ∀ F : V → Prop, F v → (∀ x, F x → ∀ w ∈ succ x, F w ∨ T.marks w ≠ 0) → ∀ x, x ∈ s ∨ x ∈ lv l → F x
  reach : ∀ C : V → Prop, C v → (∀ x, x ∈ s ∨ x = v → C x → ∀ w ∈ succ x, w ∈ s → C w) → ∀ x ∈ s, C x
  ord : OrdL succ T.depth l
/-- In its second pass (Component). -/
structure Mid2 (succ : V → List V) (T : St V) (v : V) (S : St V) (rest : List V) (s : List V) (l1 l2 : List (V × Nat × Bool)) : Prop where
  calls : S.calls = ⟨v, rest, T.count + 1, true, true⟩ :: T.calls
  stack : S.stack = T.stack
  list : S.list = l2 ++ (l1 ++ T.list)
  depth : S.depth = T.depth + 1
  cnt : T.count < S.count
  keep : ∀ x, T.marks x ≠ 0 → S.marks x = T.marks x
  v0 : T.marks v = 0
  vm : S.marks v = DONE
  lz1 : ∀ x ∈ lv l1, T.marks x = 0 ∧ S.marks x = DONE
  lz2 : ∀ x ∈ lv l2, x ∈ s ∧ S.marks x = DONE
  s0 : ∀ x ∈ s, T.marks x = 0
  sm : ∀ x ∈ s, S.marks x = 0 ∨ x ∈ lv l2
  oz : ∀ x, T.marks x = 0 → x ≠ v → x ∉ lv l1 → x ∉ lv l2 → S.marks x = 0
  aD1 : ∀ x ∈ lv l1, ∀ w ∈ succ x, S.marks w = DONE ∧ w ∉ s ∧ w ≠ v
  aD2 : ∀ x ∈ lv l2, ∀ w ∈ succ x, S.marks w = DONE
  sa : ∀ x, x ∈ s ∨ x = v → ∀ w ∈ succ x, w ∈ s ∨ S.marks w = DONE
  seen : ∃ p, succ v = p ++ rest ∧ ∀ w ∈ p, S.marks w = DONE
  reach : ∀ C : V → Prop, C v → (∀ x, x ∈ s ∨ x = v → C x → ∀ w ∈ succ x, w ∈ s → C w) → ∀ x ∈ s, C x
  arc : ∃ x, (x ∈ s ∨ x = v) ∧ v ∈ succ x
  fence : ∀ F : V → Prop, F v → (∀ x, F x → ∀ w ∈ succ x, F w ∨ T.marks w ≠ 0) → ∀ x, x ∈ s ∨ x ∈ lv l1 → F x
  ord1 : OrdL succ T.depth l1
  ord2 : OrdL succ (T.depth + 1) l2
/-- What is asked of the state ahead. -/
structure Gd (T : St V) : Prop where
  stk : ∀ x ∈ T.stack, 1 ≤ T.marks x ∧ T.marks x ≤ T.count
  num : InvN T
  sm : T.count + 1 < DONE
theorem Gd.ne0 {T : St V} (g : Gd T) {x : V} (h : x ∈ T.stack) : T.marks x ≠ 0 := by have := g.stk x h; omega
theorem Gd.nd {T : St V} (g : Gd T) {x : V} (h : x ∈ T.stack) : T.marks x ≠ DONE := by have := g.stk x h; have := g.sm; omega
theorem hear_yes (v : V) (q : List V) (h m : Nat) (lp : Bool) (hm : m ≤ h) : hear ⟨v, q, h, lp, false⟩ m = ⟨v, q, m, true, false⟩ := by unfold hear; rw [if_pos ⟨rfl, hm⟩]
theorem hear_no (v : V) (q : List V) (h m : Nat) (lp : Bool) (hm : h < m) : hear ⟨v, q, h, lp, false⟩ m = ⟨v, q, h, lp, false⟩ := by unfold hear; rw [if_neg (fun hh => by have := hh.2; simp only at this; omega)]
theorem hear_sec (v : V) (q : List V) (h m : Nat) (lp : Bool) : hear ⟨v, q, h, lp, true⟩ m = ⟨v, q, h, lp, true⟩ := by unfold hear; rw [if_neg (fun hh => by have := hh.1; simp at this)]
theorem DONE_ne : DONE ≠ 0 := by decide
end
section
variable {V : Type} [DecidableEq V]
theorem mid_start {succ : V → List V} {T : St V} {v : V} (h0 : T.marks v = 0) : Mid succ T v (visit succ v T) (succ v) (T.count + 1) false [] [] where
  calls := rfl
  stack := rfl
  list := rfl
  depth := rfl
  cnt := Nat.lt_succ_self _
  keep := fun x hx => if_neg (fun e => hx (by rw [e]; exact h0))
  v0 := h0
  vm := if_pos rfl
  sz := fun x hx => (by cases hx)
  lz := fun x hx => (by cases hx)
  oz := fun x hx hv _ _ => by show upd _ _ _ _ = 0; unfold upd; rw [if_neg hv]; exact hx
  a0 := fun x hx => by rcases hx with hx | hx <;> cases hx
  aD := fun x hx => (by cases hx)
  seen := ⟨[], rfl, fun w hw => (by cases hw)⟩
  le := Nat.le_refl _
  low := fun x hx => (by cases hx)
  got := fun h => absurd h (by omega)
  lp1 := fun _ h => (by cases h)
  lp0 := fun _ _ => rfl
  fence := fun F _ _ x hx => by rcases hx with hx | hx <;> cases hx
  reach := fun C _ _ x hx => (by cases hx)
  ord := OrdL.nil _ _
/-- An arc to one that is marked. -/
theorem mid_hear {succ : V → List V} {T S : St V} {v u : V} {q : List V} {h : Nat} {lp : Bool} {s : List V} {l : List (V × Nat × Bool)} (gT : Gd T) (nS : InvN S) (m : Mid succ T v S (u :: q) h lp s l) (hu : S.marks u ≠ 0) :
    ∃ h' lp', Mid succ T v (step succ S) q h' lp' s l := by
  have hst : step succ S = ⟨hear ⟨v, q, h, lp, false⟩ (S.marks u) :: T.calls, S.stack, S.list, S.depth, S.marks, S.count⟩ := by
    unfold step
    rw [m.calls]
    simp only
    rw [if_neg hu]
  obtain ⟨p, hp, hseen⟩ := m.seen
  have huv : u ∈ succ v := by rw [hp]; exact List.mem_append_right _ List.mem_cons_self
  have hp' : succ v = (p ++ [u]) ++ q := by rw [hp]; simp
  have tst : ∀ x, x ∈ T.stack → S.marks x = T.marks x := fun x hx => m.keep x (gT.ne0 hx)
  by_cases hm : S.marks u ≤ h
  · rw [hear_yes _ _ _ _ _ hm] at hst
    have hle := m.le
    have husm : S.marks u ≠ DONE := by have := gT.sm; omega
    have hin : u = v ∨ u ∈ T.stack := by
      rcases nS u with e | e | e
      · exact absurd e hu
      · exact absurd e husm
      · rw [m.stack] at e
        rcases List.mem_append.1 e with e | e
        · have := (m.sz u e).2.1; omega
        · exact List.mem_cons.1 e
    refine ⟨S.marks u, true, ?_⟩
    rw [hst]
    exact {
      calls := rfl, stack := m.stack, list := m.list, depth := m.depth, cnt := m.cnt, keep := m.keep, v0 := m.v0, vm := m.vm, sz := m.sz, lz := m.lz, oz := m.oz, a0 := m.a0, aD := m.aD
      seen := ⟨p ++ [u], hp', fun w hw => by
        rcases List.mem_append.1 hw with hw | hw
        · have := hseen w hw
          exact ⟨this.1, fun hT => Nat.le_trans hm (this.2.1 hT), fun _ => Or.inl rfl⟩
        · rw [List.mem_singleton] at hw
          subst hw
          exact ⟨hu, fun hT => by rw [tst w hT]; exact Nat.le_refl _, fun _ => Or.inl rfl⟩⟩
      le := by omega
      low := fun x hx w hw hT => Nat.le_trans hm (m.low x hx w hw hT)
      got := fun hc => by
        rcases hin with rfl | hT
        · have := m.vm; omega
        · exact ⟨v, Or.inr rfl, u, huv, hT, (tst u hT).symm⟩
      lp1 := fun hc _ => by
        rcases hin with rfl | hT
        · exact ⟨u, Or.inr rfl, huv⟩
        · have := (gT.stk u hT).2; rw [tst u hT] at hc; omega
      lp0 := fun _ hf => (by cases hf)
      fence := m.fence, reach := m.reach, ord := m.ord }
  · rw [hear_no _ _ _ _ _ (by omega)] at hst
    refine ⟨h, lp, ?_⟩
    rw [hst]
    exact {
      calls := rfl, stack := m.stack, list := m.list, depth := m.depth, cnt := m.cnt, keep := m.keep, v0 := m.v0, vm := m.vm, sz := m.sz, lz := m.lz, oz := m.oz, a0 := m.a0, aD := m.aD
      seen := ⟨p ++ [u], hp', fun w hw => by
        rcases List.mem_append.1 hw with hw | hw
        · exact hseen w hw
        · rw [List.mem_singleton] at hw
          subst hw
          exact ⟨hu, fun hT => by rw [← tst w hT]; omega, fun e => Or.inr (by have := m.vm; rw [e] at hm; omega)⟩⟩
      le := m.le, low := m.low, got := m.got, lp1 := m.lp1, lp0 := m.lp0, fence := m.fence, reach := m.reach, ord := m.ord }
/-- An arc to a fresh one: the visit of it, as a big step. -/
theorem mid_visit {succ : V → List V} {T S S2 : St V} {v u : V} {q : List V} {h hu : Nat} {lp : Bool} {s su : List V} {l lu : List (V × Nat × Bool)} (gT : Gd T) (m : Mid succ T v S (u :: q) h lp s l) (h0 : S.marks u = 0)
    (b : Big succ ⟨⟨v, q, h, lp, false⟩ :: T.calls, S.stack, S.list, S.depth, S.marks, S.count⟩ u S2 hu su lu) (hc : S2.calls = hear ⟨v, q, h, lp, false⟩ hu :: T.calls) :
    ∃ h' lp', Mid succ T v S2 q h' lp' (su ++ s) (lu ++ l) := by
  obtain ⟨p, hp, hseen⟩ := m.seen
  have huv : u ∈ succ v := by rw [hp]; exact List.mem_append_right _ List.mem_cons_self
  have hp' : succ v = (p ++ [u]) ++ q := by rw [hp]; simp
  have tst : ∀ x, x ∈ T.stack → S.marks x = T.marks x := fun x hx => m.keep x (gT.ne0 hx)
  have bk : ∀ x, S.marks x ≠ 0 → S2.marks x = S.marks x := b.keep
  have t0 : ∀ x, S.marks x = 0 → T.marks x = 0 := fun x hx => by
    by_cases e : T.marks x = 0
    · exact e
    · have := m.keep x e; omega
  have vne : S.marks v ≠ 0 := by rw [m.vm]; omega
  have u2 : S2.marks u ≠ 0 := by
    rcases b.hs with ⟨_, _, e, l', h1, h2⟩ | ⟨h1, _⟩
    · have := (b.lz u (by rw [h1, lv_cons, h2]; exact List.mem_cons_self)).2
      rw [this]; exact DONE_ne
    · have := (b.sz u h1).2.1; omega
  have uT : u ∉ T.stack := fun hT => by have := gT.ne0 hT; rw [← tst u hT] at this; exact this h0
  have uv : u ≠ v := fun e => vne (by rw [← e]; exact h0)
  have bst : ∀ w, w ∈ S.stack → (w ∈ s ∨ w = v ∨ w ∈ T.stack) := fun w hw => by
    rw [m.stack] at hw
    rcases List.mem_append.1 hw with hw | hw
    · exact Or.inl hw
    · exact Or.inr (List.mem_cons.1 hw)
  have inS : ∀ w, w ∈ T.stack → w ∈ S.stack := fun w hw => by rw [m.stack]; exact List.mem_append_right _ (List.mem_cons_of_mem _ hw)
  have hcnt := m.cnt
  have bcnt : S.count < S2.count := b.cnt
  have bsz : ∀ x ∈ su, S.marks x = 0 ∧ S.count < S2.marks x ∧ S2.marks x ≠ DONE := b.sz
  have blz : ∀ x ∈ lv lu, S.marks x = 0 ∧ S2.marks x = DONE := b.lz
  have bhs : (su = [] ∧ S.count < hu ∧ ∃ e l', lu = e :: l' ∧ e.1 = u) ∨ (u ∈ su ∧ hu ≤ S.count) := b.hs
  have blow : ∀ x ∈ su, ∀ w ∈ succ x, w ∈ S.stack → hu ≤ S.marks w := b.low
  have bgot : su ≠ [] → ∃ x ∈ su, ∃ w ∈ succ x, w ∈ S.stack ∧ S.marks w = hu := b.got
  have common : ∀ h' lp', S2.calls = ⟨v, q, h', lp', false⟩ :: T.calls → h' ≤ h → (lp = true → lp' = true) → (∀ w ∈ p, w = v → lp' = true ∨ h' ≤ T.count) → (∀ x ∈ su, ∀ w ∈ succ x, w ∈ T.stack → h' ≤ T.marks w) →
      (h' ≤ T.count → ∃ x, (x ∈ su ++ s ∨ x = v) ∧ ∃ w ∈ succ x, w ∈ T.stack ∧ T.marks w = h') → (h' = T.count + 1 → lp' = true → ∃ x, (x ∈ su ++ s ∨ x = v) ∧ v ∈ succ x) → (h' = T.count + 1 → lp' = false → su ++ s = []) →
      Mid succ T v S2 q h' lp' (su ++ s) (lu ++ l) := by
    intro h' lp' c1 c2 c3 c4 c5 c6 c7 c8
    exact {
      calls := c1
      stack := by rw [b.stack]; show su ++ S.stack = _; rw [m.stack, List.append_assoc]
      list := by rw [b.list]; show lu ++ S.list = _; rw [m.list, List.append_assoc]
      depth := b.depth.trans m.depth
      cnt := by omega
      keep := fun x hx => by rw [bk x (by rw [m.keep x hx]; exact hx)]; exact m.keep x hx
      v0 := m.v0
      vm := by rw [bk v vne]; exact m.vm
      sz := fun x hx => by
        rcases List.mem_append.1 hx with hx | hx
        · have := bsz x hx
          exact ⟨t0 x this.1, by omega, this.2.2⟩
        · have := m.sz x hx
          rw [bk x (by omega)]
          exact this
      lz := fun x hx => by
        rw [lv_append] at hx
        rcases List.mem_append.1 hx with hx | hx
        · exact ⟨t0 x (blz x hx).1, (blz x hx).2⟩
        · have := m.lz x hx
          rw [bk x (by rw [this.2]; exact DONE_ne)]
          exact this
      oz := fun x hx hv h1 h2 => by
        rw [lv_append] at h2
        have e := m.oz x hx hv (fun hh => h1 (List.mem_append_right _ hh)) (fun hh => h2 (List.mem_append_right _ hh))
        exact b.oz x e (fun hh => h1 (List.mem_append_left _ hh)) (fun hh => h2 (List.mem_append_left _ hh))
      a0 := fun x hx w hw => by
        rw [lv_append] at hx
        have hx' : (x ∈ su ∨ x ∈ lv lu) ∨ (x ∈ s ∨ x ∈ lv l) := by
          rcases hx with hx | hx <;> rcases List.mem_append.1 hx with hx | hx
          · exact Or.inl (Or.inl hx)
          · exact Or.inr (Or.inl hx)
          · exact Or.inl (Or.inr hx)
          · exact Or.inr (Or.inr hx)
        rcases hx' with hx | hx
        · exact b.a0 x hx w hw
        · have := m.a0 x hx w hw
          rw [bk w this]; exact this
      aD := fun x hx w hw => by
        rw [lv_append] at hx
        rcases List.mem_append.1 hx with hx | hx
        · exact b.aD x hx w hw
        · have := m.aD x hx w hw
          rw [bk w (by rw [this]; exact DONE_ne)]; exact this
      seen := ⟨p ++ [u], hp', fun w hw => by
        rcases List.mem_append.1 hw with hw | hw
        · have := hseen w hw
          exact ⟨by rw [bk w this.1]; exact this.1, fun hT => Nat.le_trans c2 (this.2.1 hT), c4 w hw⟩
        · rw [List.mem_singleton] at hw
          subst hw
          exact ⟨u2, fun hT => absurd hT uT, fun e => absurd e uv⟩⟩
      le := Nat.le_trans c2 m.le
      low := fun x hx w hw hT => by
        rcases List.mem_append.1 hx with hx | hx
        · exact c5 x hx w hw hT
        · exact Nat.le_trans c2 (m.low x hx w hw hT)
      got := c6, lp1 := c7, lp0 := c8
      fence := fun F hF hcl x hx => by
        rw [lv_append] at hx
        have hx' : (x ∈ su ∨ x ∈ lv lu) ∨ (x ∈ s ∨ x ∈ lv l) := by
          rcases hx with hx | hx <;> rcases List.mem_append.1 hx with hx | hx
          · exact Or.inl (Or.inl hx)
          · exact Or.inr (Or.inl hx)
          · exact Or.inl (Or.inr hx)
          · exact Or.inr (Or.inr hx)
        rcases hx' with hx | hx
        · refine (b.fence (fun y => F y ∧ T.marks y = 0) ⟨?_, t0 u h0⟩ ?_ x hx).1
          · rcases hcl v hF u huv with e | e
            · exact e
            · exact absurd (t0 u h0) e
          · rintro y ⟨hy, _⟩ w hw
            rcases hcl y hy w hw with e | e
            · by_cases hz : T.marks w = 0
              · exact Or.inl ⟨e, hz⟩
              · exact Or.inr (by show S.marks w ≠ 0; rw [m.keep w hz]; exact hz)
            · exact Or.inr (by show S.marks w ≠ 0; rw [m.keep w e]; exact e)
        · exact m.fence F hF hcl x hx
      reach := fun C hC hcl x hx => by
        have old : ∀ y ∈ s, C y := m.reach C hC (fun y hy hCy w hw hws => hcl y (by
          rcases hy with hy | hy
          · exact Or.inl (List.mem_append_right _ hy)
          · exact Or.inr hy) hCy w hw (List.mem_append_right _ hws))
        rcases List.mem_append.1 hx with hx | hx
        · have husu : u ∈ su := by
            rcases bhs with ⟨e, _⟩ | ⟨e, _⟩
            · rw [e] at hx; cases hx
            · exact e
          have hCu : C u := hcl v (Or.inr rfl) hC u huv (List.mem_append_left _ husu)
          exact b.reach C hCu (fun y hy hCy w hw hws => hcl y (Or.inl (List.mem_append_left _ hy)) hCy w hw (List.mem_append_left _ hws)) x hx
        · exact old x hx
      ord := by
        have bo : OrdL succ S.depth lu := b.ord
        rw [m.depth] at bo
        refine bo.append m.ord (fun x hx w hw hwl => ?_)
        have e1 := m.aD x hx w hw
        have e2 := (blz w hwl).1
        rw [e1] at e2; exact DONE_ne e2 }
  by_cases hm : hu ≤ h
  · rw [hear_yes _ _ _ _ _ hm] at hc
    have hle := m.le
    have hopen : u ∈ su := by
      rcases bhs with ⟨_, e, _⟩ | ⟨e, _⟩
      · omega
      · exact e
    have hne : su ≠ [] := fun e => by rw [e] at hopen; cases hopen
    refine ⟨hu, true, common hu true hc hm (fun _ => rfl) (fun _ _ _ => Or.inl rfl) (fun x hx w hw hT => by rw [← tst w hT]; exact blow x hx w hw (inS w hT)) ?_ ?_ (fun _ hf => by cases hf)⟩
    · intro hc2
      obtain ⟨x, hx, w, hw, hws, e⟩ := bgot hne
      rcases bst w hws with e2 | e2 | e2
      · have := (m.sz w e2).2.1; omega
      · have := m.vm; rw [e2] at e; omega
      · exact ⟨x, Or.inl (List.mem_append_left _ hx), w, hw, e2, by rw [← tst w e2]; exact e⟩
    · intro hc2 _
      obtain ⟨x, hx, w, hw, hws, e⟩ := bgot hne
      rcases bst w hws with e2 | e2 | e2
      · have := (m.sz w e2).2.1; omega
      · subst e2; exact ⟨x, Or.inl (List.mem_append_left _ hx), hw⟩
      · have := (gT.stk w e2).2; rw [tst w e2] at e; omega
  · rw [hear_no _ _ _ _ _ (by omega)] at hc
    refine ⟨h, lp, common h lp hc (Nat.le_refl _) (fun e => e) (fun w hw => (hseen w hw).2.2) (fun x hx w hw hT => by
      have := blow x hx w hw (inS w hT)
      rw [tst w hT] at this; omega) ?_ ?_ ?_⟩
    · intro hc2
      obtain ⟨x, hx, r⟩ := m.got hc2
      exact ⟨x, hx.imp (fun e => List.mem_append_right _ e) (fun e => e), r⟩
    · intro hc2 hl
      obtain ⟨x, hx, r⟩ := m.lp1 hc2 hl
      exact ⟨x, hx.imp (fun e => List.mem_append_right _ e) (fun e => e), r⟩
    · intro hc2 hl
      have hs0 := m.lp0 hc2 hl
      by_cases hne : su = []
      · rw [hne, hs0]; rfl
      · exfalso
        obtain ⟨x, hx, w, hw, hws, e⟩ := bgot hne
        rcases bst w hws with e2 | e2 | e2
        · rw [hs0] at e2; cases e2
        · have := m.vm; rw [e2] at e; omega
        · have := (gT.stk w e2).2; rw [tst w e2] at e; omega
end
end Go.Proofs.Ytaocomjhepgabaa
