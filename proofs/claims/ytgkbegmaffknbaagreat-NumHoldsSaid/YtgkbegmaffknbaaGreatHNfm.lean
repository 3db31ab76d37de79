import Derived.Test.YtgkbegmaffknbaaGreatHCml
import Derived.Test.YtgkbegmaffknbaaGreatHNset
set_option linter.unusedVariables false
set_option linter.unusedSimpArgs false
/- Cdvm Nfm -/
namespace Go.Proofs.YtgkbegmaffknbaaGreat
section
open Go.RowKit
def divC (cM cR dM dR : Nat) : Nat × Nat :=
  if 0 < dM ∨ wrap64 (dR : Int) = 0 then (1, 0)
  else if cM = 0 then (0, bitsN (if wrap64 (dR : Int) = -1 then wrap64 (-(wrap64 (cR : Int))) else (wrap64 (cR : Int)).tdiv (wrap64 (dR : Int))))
  else if wrap64 (dR : Int) = -1 ∨ cM % (wrap64 (dR : Int)).natAbs ≠ 0 ∨ cR % cM % (wrap64 (dR : Int)).natAbs ≠ 0 then (1, 0)
  else (cM / (wrap64 (dR : Int)).natAbs, restN (cR % cM / (wrap64 (dR : Int)).natAbs) (decide (wrap64 (dR : Int) < 0)) (cM / (wrap64 (dR : Int)).natAbs))
theorem all_mem (v : Int) : MemC 1 0 v := by rw [memC_pos (by omega)]; simp
theorem tdiv_in64 {x y : Int} (hx : In64 x) (h1 : y ≠ -1) : In64 (x.tdiv y) := by
  have a : (x.tdiv y).natAbs = x.natAbs / y.natAbs := Int.natAbs_tdiv x y
  by_cases h0 : y.natAbs < 2
  · have : y = 0 ∨ y = 1 := by omega
    rcases this with rfl | rfl
    · rw [Int.tdiv_zero]; unfold In64; omega
    · rw [Int.tdiv_one]; exact hx
  · have b : x.natAbs / y.natAbs ≤ x.natAbs / 2 := Nat.div_le_div_left (by omega) (by omega)
    unfold In64 at *; omega
theorem div_memC {cM cR dM dR : Nat} {x y v : Int} (hx : MemC cM cR x) (hy : MemC dM dR y) (hxi : In64 x) (h0 : y ≠ 0) (hv : v = if y = -1 then wrap64 (-x) else x.tdiv y) : MemC (divC cM cR dM dR).1 (divC cM cR dM dR).2 v := by
  unfold divC
  by_cases h : 0 < dM ∨ wrap64 (dR : Int) = 0
  · rw [if_pos h]; exact all_mem v
  · rw [if_neg h]
    have hd : dM = 0 := by omega
    subst hd
    rw [memC_zero] at hy
    rw [← hy]
    by_cases hc : cM = 0
    · rw [if_pos hc]
      subst hc
      rw [memC_zero] at hx
      rw [← hx, ← hv]
      refine bits_mem ?_
      rw [hv]
      split
      · exact wrap64_in _
      · rename_i c; exact tdiv_in64 hxi c
    · rw [if_neg hc]
      by_cases h2 : y = -1 ∨ cM % y.natAbs ≠ 0 ∨ cR % cM % y.natAbs ≠ 0
      · rw [if_pos h2]; exact all_mem v
      · rw [if_neg h2]
        have k1 : y ≠ -1 := fun c => h2 (Or.inl c)
        have k2 : cM % y.natAbs = 0 := Classical.byContradiction fun c => h2 (Or.inr (Or.inl c))
        have k3 : cR % cM % y.natAbs = 0 := Classical.byContradiction fun c => h2 (Or.inr (Or.inr c))
        rw [if_neg k1] at hv
        have hn : 0 < y.natAbs := by omega
        obtain ⟨p, hp⟩ := Nat.dvd_of_mod_eq_zero k2
        obtain ⟨q, hq⟩ := Nat.dvd_of_mod_eq_zero k3
        have e1 : cM / y.natAbs = p := by rw [hp, Nat.mul_div_cancel_left _ hn]
        have e2 : cR % cM / y.natAbs = q := by rw [hq, Nat.mul_div_cancel_left _ hn]
        have hp0 : 0 < p := by
          apply Nat.pos_of_ne_zero; intro c; rw [c, Nat.mul_zero] at hp; exact hc hp
        rw [e1, e2, cls_mem hp0]
        rw [memC_dvd, rI_pos (by omega), hq, hp] at hx
        obtain ⟨a, ha⟩ := hx
        rw [Int.natCast_mul, Int.natCast_mul] at ha
        have ex : x = (y.natAbs : Int) * (q + p * a) := by
          rw [Int.mul_add, ← Int.mul_assoc]; omega
        have ev : v = (if y < 0 then -1 else 1) * ((q : Int) + p * a) := by
          rw [hv, ex]
          by_cases s : y < 0
          · rw [if_pos s]
            have : (y.natAbs : Int) = -y := by omega
            rw [this, Int.neg_mul, Int.neg_tdiv, Int.mul_tdiv_cancel_left _ h0, Int.neg_mul, Int.one_mul]
          · rw [if_neg s]
            have : (y.natAbs : Int) = y := by omega
            rw [this, Int.mul_tdiv_cancel_left _ h0, Int.one_mul]
        rw [ev]
        unfold sval
        by_cases s : y < 0
        · rw [if_pos s, decide_eq_true s, if_pos rfl]
          exact ⟨-a, by rw [Int.mul_neg]; omega⟩
        · rw [if_neg s, decide_eq_false s, if_neg (by simp)]
          exact ⟨a, by omega⟩
end
section
open Go.RowKit
theorem joinC_u64 {cM cR dM dR : Nat} (h1 : U64 cM) (h3 : U64 dM) (h2 : U64 cR) (h4 : U64 dR) : U64 (joinC cM cR dM dR).1 ∧ U64 (joinC cM cR dM dR).2 := by
  unfold joinC
  refine classC_u64 ?_
  unfold joinG U64
  by_cases c : cM = 0 ∧ dM = 0
  · obtain ⟨rfl, rfl⟩ := c
    have p := wrap64_in (cR : Int)
    have q := wrap64_in (dR : Int)
    rw [rI_zero, rI_zero, Nat.gcd_zero_left, Nat.gcd_zero_left]
    unfold In64 at *
    omega
  · have : 0 < Nat.gcd cM dM := by
      apply Nat.pos_of_ne_zero
      intro z
      exact c (Nat.gcd_eq_zero_iff.1 z)
    have a := Nat.le_of_dvd this (Nat.gcd_dvd_left (Nat.gcd cM dM) (rI cM cR - rI dM dR).natAbs)
    have b : Nat.gcd cM dM < 18446744073709551616 := by
      unfold U64 at h1 h3
      by_cases z : cM = 0
      · rw [z, Nat.gcd_zero_left]; exact h3
      · exact Nat.lt_of_le_of_lt (Nat.le_of_dvd (by omega) (Nat.gcd_dvd_left cM dM)) h1
    omega
theorem nz_in {x : Int} (h : In64 x) : In64 (if x = 0 then 1 else x) ∧ In64 (if x = 0 then -1 else x) := by
  unfold In64 at *; constructor <;> split <;> omega
theorem nzRaw_norm {a : Int × Int × Nat × Nat × Bool} (ha : RawN a) (na : NormN a) : NormN (nzRaw a) := by
  unfold nzRaw
  split
  · exact na
  · exact make_norm (nz_in ha.1).1 (nz_in ha.2.1).2
theorem nzRaw_raw {a : Int × Int × Nat × Nat × Bool} (ha : RawN a) : RawN (nzRaw a) := by
  unfold nzRaw
  split
  · exact ha
  · exact make_raw (nz_in ha.1).1 (nz_in ha.2.1).2 ha.2.2.1 ha.2.2.2
theorem nonZeroN_raw {a : Int × Int × Nat × Nat × Bool} (ha : RawN a) : RawN (nonZeroN a) := nzRaw_raw (normN_raw ha)
/-- Is it one of the numbers? -/
def insN (a : Int × Int × Nat × Nat × Bool) (v : Int) : Bool := !a.2.2.2.2 && hasI a.1 a.2.1 v && hasC a.2.2.1 a.2.2.2.1 v
theorem insN_iff {a : Int × Int × Nat × Nat × Bool} (ha : RawN a) {v : Int} (hv : In64 v) : insN a v = true ↔ MemN a v := by
  unfold insN MemN hasI
  rw [Bool.and_eq_true, Bool.and_eq_true, Bool.and_eq_true, hasC_iff ha.2.2.2 hv]
  simp only [Bool.not_eq_true', decide_eq_true_eq]
  constructor
  · rintro ⟨⟨a, b, c⟩, d⟩; exact ⟨a, b, c, d⟩
  · rintro ⟨a, b, c, d⟩; exact ⟨⟨a, b, c⟩, d⟩
theorem bool_ext {a b : Bool} (h : a = true ↔ b = true) : a = b := by cases a <;> cases b <;> simp_all
/-- Leq, as both forms of it are asked. -/
def lqN (a b : Int × Int × Nat × Nat × Bool) : Bool := leqN (normN a) (normN b)
/-- One of a normal form's numbers, out of any number. -/
def someN (a : Int × Int × Nat × Nat × Bool) (v : Int) : Int :=
  if a.2.2.1 = 0 then a.1
  else if ((a.2.1 - a.1).toNat / a.2.2.1 + 1) % 18446744073709551616 = 0 then v
  else a.1 + ((bitsN v % (((a.2.1 - a.1).toNat / a.2.2.1 + 1) % 18446744073709551616) * a.2.2.1 : Nat) : Int)
theorem someN_mem {a : Int × Int × Nat × Nat × Bool} (na : NormN a) (h : a.2.2.2.2 = false) {v : Int} (hv : In64 v) : MemN a (someN a v) := by
  rcases na with na | na
  · rw [na] at h; cases h
  have e := norm_ends na
  have i1 := na.2.1
  have i2 := na.2.2.1
  have le := na.2.2.2.1
  unfold someN
  by_cases z : a.2.2.1 = 0
  · rw [if_pos z]; exact e.1
  rw [if_neg z]
  have M0 : 0 < a.2.2.1 := by omega
  obtain ⟨D, hD⟩ : ∃ D, D = (a.2.1 - a.1).toNat := ⟨_, rfl⟩
  rw [← hD]
  have hD' : (D : Int) = a.2.1 - a.1 := by omega
  have hD64 : D < 18446744073709551616 := by unfold In64 at *; omega
  have qle : D / a.2.2.1 ≤ D := Nat.div_le_self _ _
  have qmul : D / a.2.2.1 * a.2.2.1 ≤ D := Nat.div_mul_le_self _ _
  have qhalf : 2 ≤ a.2.2.1 → D / a.2.2.1 ≤ D / 2 := fun c => Nat.div_le_div_left c (by omega)
  obtain ⟨Q, hQ⟩ : ∃ Q, Q = D / a.2.2.1 := ⟨_, rfl⟩
  rw [← hQ] at qle qmul qhalf ⊢
  clear hQ
  by_cases n : (Q + 1) % 18446744073709551616 = 0
  · rw [if_pos n]
    have q1 : Q = 18446744073709551615 := by omega
    have q2 : D = 18446744073709551615 := by omega
    have q3 : a.2.2.1 = 1 := by
      rcases Nat.lt_or_ge a.2.2.1 2 with c | c
      · omega
      · exfalso
        have := qhalf c
        omega
    have l1 : a.1 < a.2.1 := by omega
    have c0 := (na.2.2.2.2.2.2.2 l1).2
    unfold In64 at *
    refine ⟨na.1, by omega, by omega, ?_⟩
    rw [q3, show a.2.2.2.1 = 0 by omega]
    exact all_mem v
  · have Q64 : Q + 1 < 18446744073709551616 := by omega
    rw [if_neg n, Nat.mod_eq_of_lt Q64]
    have k := Nat.mod_lt (bitsN v) (show 0 < Q + 1 by omega)
    obtain ⟨K, hK⟩ : ∃ K, K = bitsN v % (Q + 1) := ⟨_, rfl⟩
    rw [← hK] at k ⊢
    have km : K * a.2.2.1 ≤ D := Nat.le_trans (Nat.mul_le_mul_right _ (show K ≤ Q by omega)) qmul
    refine ⟨na.1, by omega, by omega, ?_⟩
    have c := e.1.2.2.2
    rw [memC_dvd] at c ⊢
    have d : (a.2.2.1 : Int) ∣ ((K * a.2.2.1 : Nat) : Int) := by rw [Int.natCast_mul]; exact Int.dvd_mul_left _ _
    have := Int.dvd_add c d
    rwa [show a.1 - rI a.2.2.1 a.2.2.2.1 + ((K * a.2.2.1 : Nat) : Int) = a.1 + ((K * a.2.2.1 : Nat) : Int) - rI a.2.2.1 a.2.2.2.1 by omega] at this
theorem someN_in {a : Int × Int × Nat × Nat × Bool} (ra : RawN a) (na : NormN a) {v : Int} (hv : In64 v) : In64 (someN a v) := by
  cases h : a.2.2.2.2
  · have m := someN_mem na h hv
    have p := ra.1; have q := ra.2.1; have r := m.2.1; have s := m.2.2.1
    unfold In64 at *; omega
  · rcases na with na | na
    · rw [na]; unfold someN botN; simp [In64]
    · rw [na.1] at h; cases h
end
end Go.Proofs.YtgkbegmaffknbaaGreat
