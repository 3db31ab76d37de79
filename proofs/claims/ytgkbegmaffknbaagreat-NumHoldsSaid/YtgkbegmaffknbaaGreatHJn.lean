import Derived.Test.YtgkbegmaffknbaaGreatHIdh
import Derived.Test.YtgkbegmaffknbaaGreatHJd
set_option linter.unusedVariables false
set_option linter.unusedSimpArgs false
set_option linter.unnecessarySimpa false
/- Jn -/
namespace Go.Proofs.YtgkbegmaffknbaaGreat
open Go.RowKit
theorem Hull.join {S T : Int → Prop} {a b c d : Int} (h : Hull S a b) (g : Hull T c d) : Hull (fun v => S v ∨ T v) (joinI a b c d).1 (joinI a b c d).2 := by
  rcases h with ⟨rfl, rfl, h⟩ | ⟨h1, h2, h3⟩
  · have e : joinI 1 0 c d = normI c d := by unfold joinI; rw [if_pos (by omega)]
    rw [e]
    rcases g with ⟨rfl, rfl, g⟩ | ⟨g1, g2, g3⟩
    · left; exact ⟨rfl, rfl, fun v hv => by rcases hv with hv | hv; exact h v hv; exact g v hv⟩
    · have hcd : c ≤ d := (g3 d g2).1
      have e2 : normI c d = (c, d) := by unfold normI; rw [if_neg (by omega)]
      rw [e2]
      right
      exact ⟨Or.inr g1, Or.inr g2, fun v hv => by rcases hv with hv | hv; exact absurd hv (h v); exact g3 v hv⟩
  · have hab : a ≤ b := (h3 b h2).1
    rcases g with ⟨rfl, rfl, g⟩ | ⟨g1, g2, g3⟩
    · have e : joinI a b 1 0 = (a, b) := by unfold joinI; rw [if_neg (by omega), if_pos (by omega)]
      rw [e]
      right
      exact ⟨Or.inl h1, Or.inl h2, fun v hv => by rcases hv with hv | hv; exact h3 v hv; exact absurd hv (g v)⟩
    · have hcd : c ≤ d := (g3 d g2).1
      have e : joinI a b c d = (min a c, max b d) := by unfold joinI; rw [if_neg (by omega), if_neg (by omega)]
      rw [e]
      right
      refine ⟨?_, ?_, ?_⟩
      · show S (min a c) ∨ T (min a c)
        by_cases hh : a ≤ c
        · rw [show min a c = a by omega]; exact Or.inl h1
        · rw [show min a c = c by omega]; exact Or.inr g1
      · show S (max b d) ∨ T (max b d)
        by_cases hh : b ≤ d
        · rw [show max b d = d by omega]; exact Or.inr g2
        · rw [show max b d = b by omega]; exact Or.inl h2
      · intro v hv
        rcases hv with hv | hv
        · have := h3 v hv; exact ⟨by show min a c ≤ v; omega, by show v ≤ max b d; omega⟩
        · have := g3 v hv; exact ⟨by show min a c ≤ v; omega, by show v ≤ max b d; omega⟩
/-- What holds of every piece. -/
def PF (x1 x2 y1 y2 : Int) : Prop := x1 ≤ x2 → y1 ≤ y2 → In64 x1 ∧ In64 x2 ∧ (0 < y1 ∨ y2 < 0) ∧ (¬ (Mem x1 x2 (-9223372036854775808) ∧ Mem y1 y2 (-1)) ∨ (x1 = -9223372036854775808 ∧ x2 = -9223372036854775808 ∧ y1 = -1 ∧ y2 = -1))
def NoWrap (x1 x2 y1 y2 : Int) : Prop := ∀ x y, Mem x1 x2 x → Mem y1 y2 y → y ≠ 0 → In64 (x.tdiv y)
theorem cL_tdiv (x1 x2 y1 y2 : Int) : cL Int.tdiv x1 x2 y1 y2 4 = min4 (x1.tdiv y1) (x1.tdiv y2) (x2.tdiv y1) (x2.tdiv y2) ∧ cH Int.tdiv x1 x2 y1 y2 4 = max4 (x1.tdiv y1) (x1.tdiv y2) (x2.tdiv y1) (x2.tdiv y2) := by
  simp only [cL, cH, cX, cY, min4, max4]
  generalize x1.tdiv y1 = p at *
  generalize x1.tdiv y2 = q at *
  generalize x2.tdiv y1 = r at *
  generalize x2.tdiv y2 = s at *
  omega
theorem piece_hull {x1 x2 y1 y2 : Int} (hx : x1 ≤ x2) (hy : y1 ≤ y2) (hP : PF x1 x2 y1 y2) :
    Hull (DivS x1 x2 y1 y2) (hullW (cL Int.tdiv x1 x2 y1 y2 4) (cH Int.tdiv x1 x2 y1 y2 4)).1 (hullW (cL Int.tdiv x1 x2 y1 y2 4) (cH Int.tdiv x1 x2 y1 y2 4)).2 ∧ (exW (cL Int.tdiv x1 x2 y1 y2 4) (cH Int.tdiv x1 x2 y1 y2 4) = true ↔ NoWrap x1 x2 y1 y2) := by
  obtain ⟨i1, i2, hs, hw⟩ := hP hx hy
  rcases hw with hw | ⟨rfl, rfl, rfl, rfl⟩
  · have e1 := (cL_tdiv x1 x2 y1 y2).1
    have e2 := (cL_tdiv x1 x2 y1 y2).2
    have m1 : Mem x1 x2 x1 := ⟨by omega, hx⟩
    have m2 : Mem x1 x2 x2 := ⟨hx, by omega⟩
    have n1 : Mem y1 y2 y1 := ⟨by omega, hy⟩
    have n2 : Mem y1 y2 y2 := ⟨hy, by omega⟩
    have nz : ∀ y, Mem y1 y2 y → y ≠ 0 := by intro y h; unfold Mem at h; omega
    have nin : ∀ x y, Mem x1 x2 x → Mem y1 y2 y → In64 (x.tdiv y) := by
      intro x y h g
      refine quo_in ?_ (nz y g) ?_
      · unfold Mem at h; unfold In64 at *; omega
      · rintro ⟨rfl, rfl⟩; exact hw ⟨h, g⟩
    have bet : ∀ x y, Mem x1 x2 x → Mem y1 y2 y → cL Int.tdiv x1 x2 y1 y2 4 ≤ x.tdiv y ∧ x.tdiv y ≤ cH Int.tdiv x1 x2 y1 y2 4 := by
      intro x y h g
      rw [e1, e2]
      rcases hs with hs | hs
      · exact tdiv_corners_pos hs h g
      · exact tdiv_corners_neg hs h g
    have ex : ∀ (z : Int), (z = x1.tdiv y1 ∨ z = x1.tdiv y2 ∨ z = x2.tdiv y1 ∨ z = x2.tdiv y2) → ∃ x y, Mem x1 x2 x ∧ Mem y1 y2 y ∧ z = x.tdiv y := by
      rintro z (h | h | h | h)
      · exact ⟨x1, y1, m1, n1, h⟩
      · exact ⟨x1, y2, m1, n2, h⟩
      · exact ⟨x2, y1, m2, n1, h⟩
      · exact ⟨x2, y2, m2, n2, h⟩
    obtain ⟨xl, yl, a1, a2, a3⟩ := ex (cL Int.tdiv x1 x2 y1 y2 4) (by
      rw [e1]; unfold min4
      generalize x1.tdiv y1 = p at *
      generalize x1.tdiv y2 = q at *
      generalize x2.tdiv y1 = r at *
      generalize x2.tdiv y2 = s at *
      omega)
    obtain ⟨xh, yh, b1, b2, b3⟩ := ex (cH Int.tdiv x1 x2 y1 y2 4) (by
      rw [e2]; unfold max4
      generalize x1.tdiv y1 = p at *
      generalize x1.tdiv y2 = q at *
      generalize x2.tdiv y1 = r at *
      generalize x2.tdiv y2 = s at *
      omega)
    clear e1 e2 ex
    generalize cL Int.tdiv x1 x2 y1 y2 4 = L at *
    generalize cH Int.tdiv x1 x2 y1 y2 4 = H at *
    have inL : In64 L := by rw [a3]; exact nin _ _ a1 a2
    have inH : In64 H := by rw [b3]; exact nin _ _ b1 b2
    have hh : hullW L H = (L, H) := by
      unfold hullW
      rw [if_pos (by unfold tW; unfold In64 at inL inH; omega), wrap64_id inL, wrap64_id inH]
    rw [hh]
    refine ⟨Or.inr ⟨⟨xl, yl, a1, a2, nz _ a2, by rw [← a3]; exact (wrap64_id inL).symm⟩, ⟨xh, yh, b1, b2, nz _ b2, by rw [← b3]; exact (wrap64_id inH).symm⟩, ?_⟩, ?_⟩
    · rintro v ⟨x, y, h1, h2, h3, rfl⟩
      rw [wrap64_id (nin x y h1 h2)]
      exact bet x y h1 h2
    · have : exW L H = true := by unfold exW; rw [decide_eq_true inL, decide_eq_true inH]; rfl
      rw [this]
      exact ⟨fun _ x y h g _ => nin x y h g, fun _ => rfl⟩
  · have e1 : cL Int.tdiv (-9223372036854775808) (-9223372036854775808) (-1) (-1) 4 = 9223372036854775808 := by kernel_rfl
    have e2 : cH Int.tdiv (-9223372036854775808) (-9223372036854775808) (-1) (-1) 4 = 9223372036854775808 := by kernel_rfl
    rw [e1, e2]
    have hh : hullW 9223372036854775808 9223372036854775808 = (-9223372036854775808, -9223372036854775808) := by kernel_rfl
    have hz : exW 9223372036854775808 9223372036854775808 = false := by
      unfold exW; rw [decide_eq_false (by unfold In64; omega)]; rfl
    have ev : wrap64 ((-9223372036854775808 : Int).tdiv (-1)) = -9223372036854775808 := by kernel_rfl
    rw [hh, hz]
    have mm : Mem (-9223372036854775808) (-9223372036854775808) (-9223372036854775808) := ⟨by omega, by omega⟩
    have m1 : Mem (-1) (-1) (-1) := ⟨by omega, by omega⟩
    refine ⟨Or.inr ⟨⟨_, _, mm, m1, by omega, ev.symm⟩, ⟨_, _, mm, m1, by omega, ev.symm⟩, ?_⟩, ?_⟩
    · rintro v ⟨x, y, h1, h2, h3, rfl⟩
      have hx' : x = -9223372036854775808 := by unfold Mem at h1; omega
      have hy' : y = -1 := by unfold Mem at h2; omega
      subst hx' hy'
      rw [ev]
      exact ⟨by show (-9223372036854775808 : Int) ≤ -9223372036854775808; omega, by show (-9223372036854775808 : Int) ≤ -9223372036854775808; omega⟩
    · constructor
      · intro h; cases h
      · intro h
        have := h _ _ mm m1 (by omega)
        have e : (-9223372036854775808 : Int).tdiv (-1) = 9223372036854775808 := by kernel_rfl
        rw [e] at this
        unfold In64 at this
        omega
theorem st_hull {S : Int → Prop} {C : Prop} {s : (Int × Int) × Bool} {x1 x2 y1 y2 : Int} (h : Hull S s.1.1 s.1.2) (hc : s.2 = true ↔ C) (hP : PF x1 x2 y1 y2) :
    Hull (fun v => S v ∨ DivS x1 x2 y1 y2 v) (stD x1 x2 y1 y2 s).1.1 (stD x1 x2 y1 y2 s).1.2 ∧ ((stD x1 x2 y1 y2 s).2 = true ↔ C ∧ NoWrap x1 x2 y1 y2) := by
  unfold stD
  by_cases hn : x2 < x1 ∨ y2 < y1
  · rw [if_pos hn]
    refine ⟨h.congr fun v => ⟨Or.inl, ?_⟩, ?_⟩
    · rintro (hv | ⟨x, y, h1, h2, _⟩)
      · exact hv
      · unfold Mem at h1 h2; omega
    · rw [hc]
      refine ⟨fun c => ⟨c, fun x y h1 h2 _ => ?_⟩, fun c => c.1⟩
      unfold Mem at h1 h2; omega
  · rw [if_neg hn]
    obtain ⟨p1, p2⟩ := piece_hull (show x1 ≤ x2 by omega) (show y1 ≤ y2 by omega) hP
    refine ⟨h.join p1, ?_⟩
    show (s.2 && _) = true ↔ _
    rw [Bool.and_eq_true, hc, p2]
theorem dv_hull {X01 X02 X11 X12 Y01 Y02 Y11 Y12 Y21 Y22 : Int} (hP : ∀ i, i < 6 → PF (sel2 X01 X11 (i / 3)) (sel2 X02 X12 (i / 3)) (sel3 Y01 Y11 Y21 (i % 3)) (sel3 Y02 Y12 Y22 (i % 3))) :
    ∀ m, m ≤ 6 → Hull (fun v => ∃ i, i < m ∧ DivS (sel2 X01 X11 (i / 3)) (sel2 X02 X12 (i / 3)) (sel3 Y01 Y11 Y21 (i % 3)) (sel3 Y02 Y12 Y22 (i % 3)) v) (dvF X01 X02 X11 X12 Y01 Y02 Y11 Y12 Y21 Y22 m).1.1 (dvF X01 X02 X11 X12 Y01 Y02 Y11 Y12 Y21 Y22 m).1.2 ∧
      ((dvF X01 X02 X11 X12 Y01 Y02 Y11 Y12 Y21 Y22 m).2 = true ↔ ∀ i, i < m → NoWrap (sel2 X01 X11 (i / 3)) (sel2 X02 X12 (i / 3)) (sel3 Y01 Y11 Y21 (i % 3)) (sel3 Y02 Y12 Y22 (i % 3))) := by
  intro m
  induction m with
  | zero =>
    intro _
    refine ⟨Or.inl ⟨rfl, rfl, ?_⟩, ?_⟩
    · rintro v ⟨i, hi, _⟩; omega
    · exact ⟨fun _ i hi => by omega, fun _ => rfl⟩
  | succ m ih =>
    intro hm
    obtain ⟨i1, i2⟩ := ih (by omega)
    obtain ⟨j1, j2⟩ := st_hull i1 i2 (hP m (by omega))
    refine ⟨j1.congr fun v => ⟨?_, ?_⟩, ?_⟩
    · rintro (⟨i, hi, h⟩ | h)
      · exact ⟨i, by omega, h⟩
      · exact ⟨m, by omega, h⟩
    · rintro ⟨i, hi, h⟩
      by_cases e : i = m
      · subst e; exact Or.inr h
      · exact Or.inl ⟨i, by omega, h⟩
    · show (stD _ _ _ _ _).2 = true ↔ _
      rw [j2]
      constructor
      · rintro ⟨h1, h2⟩ i hi
        by_cases e : i = m
        · subst e; exact h2
        · exact h1 i (by omega)
      · intro h
        exact ⟨fun i hi => h i (by omega), h m (by omega)⟩
/-- The pieces of the dividends and of the divisors. -/
def Parts (al ah bl bh X01 X02 X11 X12 Y01 Y02 Y11 Y12 Y21 Y22 : Int) : Prop := meetI al ah (-9223372036854775808) (-9223372036854775808) = (X01, X02) ∧ meetI al ah (-9223372036854775807) 9223372036854775807 = (X11, X12) ∧ meetI bl bh (-9223372036854775808) (-2) = (Y01, Y02) ∧ meetI bl bh (-1) (-1) = (Y11, Y12) ∧ meetI bl bh 1 9223372036854775807 = (Y21, Y22)
theorem mem_of {a b c d p q v : Int} (h : meetI a b c d = (p, q)) : Mem p q v ↔ Mem a b v ∧ Mem c d v := by
  have := meetI_mem a b c d v
  rw [h] at this
  exact this
theorem meet_cases {a b c d p q : Int} (h : meetI a b c d = (p, q)) : (p = 1 ∧ q = 0) ∨ (p ≤ q ∧ p = max a c ∧ q = min b d) := by
  unfold meetI normI at h
  split at h
  · left; cases h; exact ⟨rfl, rfl⟩
  · right; rename_i hh; cases h; exact ⟨by omega, rfl, rfl⟩
theorem parts_facts {al ah bl bh X01 X02 X11 X12 Y01 Y02 Y11 Y12 Y21 Y22 : Int} (h : Parts al ah bl bh X01 X02 X11 X12 Y01 Y02 Y11 Y12 Y21 Y22) (ha1 : In64 al) (ha2 : In64 ah) (hb1 : In64 bl) (hb2 : In64 bh) : DvFacts X01 X02 X11 X12 Y01 Y02 Y11 Y12 Y21 Y22 := by
  obtain ⟨h0, h1, h2, h3, h4⟩ := h
  have c0 := meet_cases h0; have c1 := meet_cases h1; have c2 := meet_cases h2; have c3 := meet_cases h3; have c4 := meet_cases h4
  clear h0 h1 h2 h3 h4
  unfold In64 at *
  refine ⟨fun k => ?_, fun j => ?_⟩
  · unfold sel2
    cases k <;> simp only <;> unfold In64 <;> omega
  · unfold sel3
    split <;> omega
theorem parts_pf {al ah bl bh X01 X02 X11 X12 Y01 Y02 Y11 Y12 Y21 Y22 : Int} (h : Parts al ah bl bh X01 X02 X11 X12 Y01 Y02 Y11 Y12 Y21 Y22) (ha1 : In64 al) (ha2 : In64 ah) (hb1 : In64 bl) (hb2 : In64 bh) : ∀ i, i < 6 → PF (sel2 X01 X11 (i / 3)) (sel2 X02 X12 (i / 3)) (sel3 Y01 Y11 Y21 (i % 3)) (sel3 Y02 Y12 Y22 (i % 3)) := by
  obtain ⟨h0, h1, h2, h3, h4⟩ := h
  have c0 := meet_cases h0; have c1 := meet_cases h1; have c2 := meet_cases h2; have c3 := meet_cases h3; have c4 := meet_cases h4
  clear h0 h1 h2 h3 h4
  unfold In64 at *
  intro i hi
  obtain rfl | rfl | rfl | rfl | rfl | rfl : i = 0 ∨ i = 1 ∨ i = 2 ∨ i = 3 ∨ i = 4 ∨ i = 5 := by omega
  · show PF X01 X02 Y01 Y02
    unfold PF In64 Mem; intro p q; omega
  · show PF X01 X02 Y11 Y12
    unfold PF In64 Mem; intro p q; omega
  · show PF X01 X02 Y21 Y22
    unfold PF In64 Mem; intro p q; omega
  · show PF X11 X12 Y01 Y02
    unfold PF In64 Mem; intro p q; omega
  · show PF X11 X12 Y11 Y12
    unfold PF In64 Mem; intro p q; omega
  · show PF X11 X12 Y21 Y22
    unfold PF In64 Mem; intro p q; omega
/-- Which piece a pair is in. -/
theorem parts_find {al ah bl bh X01 X02 X11 X12 Y01 Y02 Y11 Y12 Y21 Y22 x y : Int} (h : Parts al ah bl bh X01 X02 X11 X12 Y01 Y02 Y11 Y12 Y21 Y22) (ha1 : In64 al) (ha2 : In64 ah) (hb1 : In64 bl) (hb2 : In64 bh) (hx : Mem al ah x) (hy : Mem bl bh y) (h0 : y ≠ 0) :
    ∃ i, i < 6 ∧ Mem (sel2 X01 X11 (i / 3)) (sel2 X02 X12 (i / 3)) x ∧ Mem (sel3 Y01 Y11 Y21 (i % 3)) (sel3 Y02 Y12 Y22 (i % 3)) y := by
  obtain ⟨p0, p1, q0, q1, q2⟩ := h
  have ix : In64 x := by unfold In64 Mem at *; omega
  have iy : In64 y := by unfold In64 Mem at *; omega
  unfold In64 at ix iy
  have hxc : Mem X01 X02 x ∨ Mem X11 X12 x := by
    rw [mem_of p0, mem_of p1]
    by_cases c : x = -9223372036854775808
    · exact Or.inl ⟨hx, by unfold Mem; omega⟩
    · exact Or.inr ⟨hx, by unfold Mem; omega⟩
  have hyc : Mem Y01 Y02 y ∨ Mem Y11 Y12 y ∨ Mem Y21 Y22 y := by
    rw [mem_of q0, mem_of q1, mem_of q2]
    by_cases c : y ≤ -2
    · exact Or.inl ⟨hy, by unfold Mem; omega⟩
    · by_cases c2 : y = -1
      · exact Or.inr (Or.inl ⟨hy, by unfold Mem; omega⟩)
      · exact Or.inr (Or.inr ⟨hy, by unfold Mem; omega⟩)
  rcases hxc with hx' | hx' <;> rcases hyc with hy' | hy' | hy'
  · exact ⟨0, by omega, hx', hy'⟩
  · exact ⟨1, by omega, hx', hy'⟩
  · exact ⟨2, by omega, hx', hy'⟩
  · exact ⟨3, by omega, hx', hy'⟩
  · exact ⟨4, by omega, hx', hy'⟩
  · exact ⟨5, by omega, hx', hy'⟩
theorem parts_in {al ah bl bh X01 X02 X11 X12 Y01 Y02 Y11 Y12 Y21 Y22 x y : Int} {i : Nat} (h : Parts al ah bl bh X01 X02 X11 X12 Y01 Y02 Y11 Y12 Y21 Y22) (hx : Mem (sel2 X01 X11 (i / 3)) (sel2 X02 X12 (i / 3)) x) (hy : Mem (sel3 Y01 Y11 Y21 (i % 3)) (sel3 Y02 Y12 Y22 (i % 3)) y) : Mem al ah x ∧ Mem bl bh y := by
  obtain ⟨p0, p1, q0, q1, q2⟩ := h
  constructor
  · have hxc : Mem X01 X02 x ∨ Mem X11 X12 x := by
      generalize i / 3 = k at hx
      cases k
      · exact Or.inl hx
      · exact Or.inr hx
    rw [mem_of p0, mem_of p1] at hxc
    rcases hxc with h | h <;> exact h.1
  · have hyc : Mem Y01 Y02 y ∨ Mem Y11 Y12 y ∨ Mem Y21 Y22 y := by
      generalize i % 3 = k at hy
      match k, hy with
      | 0, hy => exact Or.inl hy
      | 1, hy => exact Or.inr (Or.inl hy)
      | k + 2, hy => exact Or.inr (Or.inr hy)
    rw [mem_of q0, mem_of q1, mem_of q2] at hyc
    rcases hyc with h | h | h <;> exact h.1
theorem div_is {al ah bl bh X01 X02 X11 X12 Y01 Y02 Y11 Y12 Y21 Y22 : Int} (h : Parts al ah bl bh X01 X02 X11 X12 Y01 Y02 Y11 Y12 Y21 Y22) (ha1 : In64 al) (ha2 : In64 ah) (hb1 : In64 bl) (hb2 : In64 bh) :
    (dvF X01 X02 X11 X12 Y01 Y02 Y11 Y12 Y21 Y22 6).1.1 = (divI al ah bl bh).1 ∧ (dvF X01 X02 X11 X12 Y01 Y02 Y11 Y12 Y21 Y22 6).1.2 = (divI al ah bl bh).2.1 ∧ (dvF X01 X02 X11 X12 Y01 Y02 Y11 Y12 Y21 Y22 6).2 = (divI al ah bl bh).2.2 := by
  obtain ⟨d1, d2⟩ := dv_hull (parts_pf h ha1 ha2 hb1 hb2) 6 (by omega)
  have e1 : Hull (DivS al ah bl bh) (dvF X01 X02 X11 X12 Y01 Y02 Y11 Y12 Y21 Y22 6).1.1 (dvF X01 X02 X11 X12 Y01 Y02 Y11 Y12 Y21 Y22 6).1.2 := by
    refine d1.congr fun v => ⟨?_, ?_⟩
    · rintro ⟨i, hi, x, y, hx, hy, h0, e⟩
      obtain ⟨m1, m2⟩ := parts_in h hx hy
      exact ⟨x, y, m1, m2, h0, e⟩
    · rintro ⟨x, y, hx, hy, h0, e⟩
      obtain ⟨i, hi, m1, m2⟩ := parts_find h ha1 ha2 hb1 hb2 hx hy h0
      exact ⟨i, hi, x, y, m1, m2, h0, e⟩
  obtain ⟨u1, u2⟩ := e1.uniq (div_hull ha1 ha2 hb1 hb2)
  refine ⟨u1, u2, ?_⟩
  rw [Bool.eq_iff_iff, d2, div_exact hb1 hb2 ha1 ha2]
  constructor
  · intro g x y hx hy h0
    obtain ⟨i, hi, m1, m2⟩ := parts_find h ha1 ha2 hb1 hb2 hx hy h0
    exact g i hi x y m1 m2 h0
  · intro g i hi x y hx hy h0
    obtain ⟨m1, m2⟩ := parts_in h hx hy
    exact g x y m1 m2 h0
theorem Jpdiv_any (al ah bl bh : Int) (w0 w : World) (hok : Ok w0 w) (ha1 : In64 al) (ha2 : In64 ah) (hb1 : In64 bl) (hb2 : In64 bh) :
    Calls Tryz.prog 113 #[.agg #[.int .i64 al, .int .i64 ah], .agg #[.int .i64 bl, .int .i64 bh]] w fun e w' => e = .returned (.tuple #[.agg #[.int .i64 (divI al ah bl bh).1, .int .i64 (divI al ah bl bh).2.1], .bool (divI al ah bl bh).2.2]) ∧ Ok w0 w' := by
  obtain ⟨⟨X01, X02⟩, h0⟩ : ∃ p, meetI al ah (-9223372036854775808) (-9223372036854775808) = p := ⟨_, rfl⟩
  obtain ⟨⟨X11, X12⟩, h1⟩ : ∃ p, meetI al ah (-9223372036854775807) 9223372036854775807 = p := ⟨_, rfl⟩
  obtain ⟨⟨Y01, Y02⟩, h2⟩ : ∃ p, meetI bl bh (-9223372036854775808) (-2) = p := ⟨_, rfl⟩
  obtain ⟨⟨Y11, Y12⟩, h3⟩ : ∃ p, meetI bl bh (-1) (-1) = p := ⟨_, rfl⟩
  obtain ⟨⟨Y21, Y22⟩, h4⟩ : ∃ p, meetI bl bh 1 9223372036854775807 = p := ⟨_, rfl⟩
  have hp : Parts al ah bl bh X01 X02 X11 X12 Y01 Y02 Y11 Y12 Y21 Y22 := ⟨h0, h1, h2, h3, h4⟩
  obtain ⟨e1, e2, e3⟩ := div_is hp ha1 ha2 hb1 hb2
  rw [← e1, ← e2, ← e3]
  exact (pdiv_x al ah bl bh X01 X02 X11 X12 Y01 Y02 Y11 Y12 Y21 Y22 w h0 h1 h2 h3 h4 (parts_facts hp ha1 ha2 hb1 hb2)).mono (fun e w' h => ⟨h.1, hok.step h.2⟩)
end Go.Proofs.YtgkbegmaffknbaaGreat
