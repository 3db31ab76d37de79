import Derived.Test.YtdbdgpcbhojcnaaIdm
set_option linter.unusedVariables false
set_option linter.unusedSimpArgs false
/- Div of intervals is the hull of all results; what a loop gathers of results one by one: plain mathematics. -/
namespace Go.Proofs.Ytdbdgpcbhojcnaa
open Go.RowKit
/-- None, or ends that are in S. -/
def Got (S : Int → Prop) (p : Int × Int) : Prop := p = (1, 0) ∨ (p.1 ≤ p.2 ∧ S p.1 ∧ S p.2)
theorem min_or {S : Int → Prop} {a b : Int} (ha : S a) (hb : S b) : S (min a b) := by
  rcases Int.le_total a b with h | h
  · rw [Int.min_eq_left h]; exact ha
  · rw [Int.min_eq_right h]; exact hb
theorem max_or {S : Int → Prop} {a b : Int} (ha : S a) (hb : S b) : S (max a b) := by
  rcases Int.le_total a b with h | h
  · rw [Int.max_eq_right h]; exact hb
  · rw [Int.max_eq_left h]; exact ha
theorem Got.join {S : Int → Prop} {p q : Int × Int} (a : Got S p) (b : Got S q) : Got S (J p q) := by
  unfold J joinI normI
  rcases a with rfl | ⟨a1, a2, a3⟩
  · rw [if_pos (by decide)]
    rcases b with rfl | ⟨b1, b2, b3⟩
    · rw [if_pos (by decide)]; exact Or.inl rfl
    · rw [if_neg (by omega)]; exact Or.inr ⟨b1, b2, b3⟩
  · rw [if_neg (by omega)]
    rcases b with rfl | ⟨b1, b2, b3⟩
    · rw [if_pos (by decide)]; exact Or.inr ⟨a1, a2, a3⟩
    · rw [if_neg (by omega)]
      exact Or.inr ⟨by simp only; omega, min_or a2 b2, max_or a3 b3⟩
theorem cor_got {S : Int → Prop} {al ah bl bh : Int} (h : ∀ u v, Mem al ah u → Mem bl bh v → S (quoI u v)) : Got S (cornersI al ah bl bh) := by
  unfold cornersI
  by_cases c : ah < al ∨ bh < bl
  · rw [if_pos c]; exact Or.inl rfl
  · rw [if_neg c]
    have m1 : Mem al ah al := by unfold Mem; omega
    have m2 : Mem al ah ah := by unfold Mem; omega
    have m3 : Mem bl bh bl := by unfold Mem; omega
    have m4 : Mem bl bh bh := by unfold Mem; omega
    refine Or.inr ⟨?_, ?_, ?_⟩
    · simp only [min4, max4]; omega
    · exact min_or (min_or (h _ _ m1 m3) (h _ _ m1 m4)) (min_or (h _ _ m2 m3) (h _ _ m2 m4))
    · exact max_or (max_or (h _ _ m1 m3) (h _ _ m1 m4)) (max_or (h _ _ m2 m3) (h _ _ m2 m4))
theorem div_got (al ah bl bh : Int) : Got (DivS al ah bl bh) ((divI al ah bl bh).1, (divI al ah bl bh).2.1) := by
  have hA : Got (DivS al ah bl bh) (divA al ah bl bh) := by
    refine cor_got ?_
    intro u v hu hv
    have := (meetI_mem _ _ _ _ _).1 hv
    exact ⟨u, v, hu, this.1, by have := this.2; unfold Mem at this; omega, rfl⟩
  unfold divI
  split
  · exact Or.inl rfl
  · split
    · rename_i hc
      have h1 := (has_iff _ _ _).1 hc.1
      have h2 := ((meetI_mem _ _ _ _ _).1 ((has_iff _ _ _).1 hc.2)).1
      refine Got.join (Got.join (Got.join hA ?_) ?_) ?_
      · have t : DivS al ah bl bh (-9223372036854775808) := ⟨_, _, h1, h2, by omega, (by
          have t : (-9223372036854775808 : Int).tdiv (-1) = 9223372036854775808 := by rfl
          rw [t]; unfold wrap64; omega)⟩
        exact Or.inr ⟨Int.le_refl _, t, t⟩
      · refine cor_got ?_
        intro u v hu hv
        have a := (meetI_mem _ _ _ _ _).1 hu
        have b := (meetI_mem _ _ _ _ _).1 hv
        exact ⟨u, v, a.1, b.1, by have := b.2; unfold Mem at this; omega, rfl⟩
      · refine cor_got ?_
        intro u v hu hv
        have b := (meetI_mem _ _ _ _ _).1 ((meetI_mem _ _ _ _ _).1 hv).1
        have e : u = -9223372036854775808 := by simp only [Mem] at hu; omega
        exact ⟨u, v, e ▸ h1, b.1, by have := b.2; unfold Mem at this; omega, rfl⟩
    · refine Got.join hA (cor_got ?_)
      intro u v hu hv
      have b := (meetI_mem _ _ _ _ _).1 hv
      exact ⟨u, v, hu, b.1, by have := b.2; unfold Mem at this; omega, rfl⟩
/-- Div is the hull of all results. -/
theorem div_hull {al ah bl bh : Int} (ha1 : In64 al) (ha2 : In64 ah) (hb1 : In64 bl) (hb2 : In64 bh) : Hull (DivS al ah bl bh) (divI al ah bl bh).1 (divI al ah bl bh).2.1 := by
  have hm : ∀ v, DivS al ah bl bh v → (divI al ah bl bh).1 ≤ v ∧ v ≤ (divI al ah bl bh).2.1 := by
    rintro v ⟨x, y, hx, hy, h0, rfl⟩
    exact div_mem ha1 ha2 hb1 hb2 hx hy h0
  rcases div_got al ah bl bh with h | ⟨_, h2, h3⟩
  · have e1 : (divI al ah bl bh).1 = 1 := congrArg Prod.fst h
    have e2 : (divI al ah bl bh).2.1 = 0 := congrArg Prod.snd h
    exact Or.inl ⟨e1, e2, fun v hv => by have := hm v hv; omega⟩
  · exact Or.inr ⟨h2, h3, hm⟩
/-- Of divisors that are 0 alone Rem has none. -/
theorem rem_zero {al ah bl bh : Int} (h : ∀ y, Mem bl bh y → y = 0) : remI al ah bl bh = (1, 0, true) := by
  have u1 : rDn bl bh = (1, 0) := by
    unfold rDn meetI normI
    rw [if_pos]
    by_cases c : bh < bl
    · omega
    · have a := h bl (by unfold Mem; omega); have b := h bh (by unfold Mem; omega); omega
  have u2 : rUp bl bh = (1, 0) := by
    unfold rUp meetI normI
    rw [if_pos]
    by_cases c : bh < bl
    · omega
    · have a := h bl (by unfold Mem; omega); have b := h bh (by unfold Mem; omega); omega
  unfold remI
  rw [u1, u2, if_pos (Or.inr (by simp))]
end Go.Proofs.Ytdbdgpcbhojcnaa
