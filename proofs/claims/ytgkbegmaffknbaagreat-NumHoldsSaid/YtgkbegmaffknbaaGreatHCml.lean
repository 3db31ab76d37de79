import Derived.Test.YtgkbegmaffknbaaGreatHChd
set_option linter.unusedVariables false
set_option linter.unusedSimpArgs false
/- Cml -/
namespace Go.Proofs.YtgkbegmaffknbaaGreat
open Go.RowKit
def mulG (cM cR dM dR : Nat) : Nat := Nat.gcd (cM * dM) (Nat.gcd (rF cM cR * dM) (rF dM dR * cM))
def mulC (cM cR dM dR : Nat) (e : Bool) : Nat × Nat :=
  if cM = 0 ∧ dM = 0 then (0, bitsN (wrap64 (wrap64 (cR : Int) * wrap64 (dR : Int))))
  else if (cM = 0 ∧ cR = 0) ∨ (dM = 0 ∧ dR = 0) then (0, 0)
  else (byG (mulG cM cR dM dR) e, restN (rF cM cR * rF dM dR) (rS cM cR != rS dM dR) (byG (mulG cM cR dM dR) e))
theorem sval_mul (f1 f2 : Nat) (s1 s2 : Bool) : sval (f1 * f2) (s1 != s2) = sval f1 s1 * sval f2 s2 := by
  unfold sval; cases s1 <;> cases s2 <;> simp [Int.natCast_mul, Int.neg_mul, Int.mul_neg]
theorem rF_abs (M R : Nat) : rF M R = (rI M R).natAbs := by
  unfold rF rI; by_cases h : M = 0
  · rw [if_pos h, if_pos h]
  · rw [if_neg h, if_neg h]; rfl
theorem rF_ne {M R : Nat} (hR : U64 R) (h : ¬ (M = 0 ∧ R = 0)) (hM : M = 0) : 0 < rF M R := by
  subst hM
  unfold rF; rw [if_pos rfl]
  have : R ≠ 0 := fun c => h ⟨rfl, c⟩
  unfold U64 at hR; unfold wrap64; omega
theorem mulG_pos {cM cR dM dR : Nat} (hc : U64 cR) (hd : U64 dR) (h0 : ¬ (cM = 0 ∧ dM = 0)) (h1 : ¬ (cM = 0 ∧ cR = 0)) (h2 : ¬ (dM = 0 ∧ dR = 0)) : 0 < mulG cM cR dM dR := by
  apply Nat.pos_of_ne_zero
  intro h
  unfold mulG at h
  have a := Nat.gcd_eq_zero_iff.1 h
  have b := Nat.gcd_eq_zero_iff.1 a.2
  have c := Nat.mul_eq_zero.1 a.1
  by_cases z : cM = 0
  · have p := rF_ne hc h1 z
    rcases Nat.mul_eq_zero.1 b.1 with q | q
    · omega
    · exact h0 ⟨z, q⟩
  · have z2 : dM = 0 := by omega
    have p := rF_ne hd h2 z2
    rcases Nat.mul_eq_zero.1 b.2 with q | q <;> omega
theorem mul_memC {cM cR dM dR : Nat} {e : Bool} {x y v : Int} (hc : U64 cR) (hd : U64 dR) (hx : MemC cM cR x) (hy : MemC dM dR y) (hv : v = x * y ∧ In64 v ∨ (e = false ∧ v = wrap64 (x * y))) : MemC (mulC cM cR dM dR e).1 (mulC cM cR dM dR e).2 v := by
  unfold mulC
  by_cases h : cM = 0 ∧ dM = 0
  · rw [if_pos h]
    obtain ⟨rfl, rfl⟩ := h
    rw [memC_zero] at hx hy
    have e1 : v = wrap64 (x * y) := by
      rcases hv with ⟨rfl, h⟩ | ⟨_, h⟩
      · exact (wrap64_id h).symm
      · exact h
    rw [← hx, ← hy, ← e1]
    refine bits_mem ?_
    rw [e1]; exact wrap64_in _
  · rw [if_neg h]
    by_cases h2 : (cM = 0 ∧ cR = 0) ∨ (dM = 0 ∧ dR = 0)
    · rw [if_pos h2]
      have e0 : x * y = 0 := by
        rcases h2 with ⟨rfl, rfl⟩ | ⟨rfl, rfl⟩
        · rw [memC_zero] at hx; rw [hx]; simp [wrap64]
        · rw [memC_zero] at hy; rw [hy]; simp [wrap64]
      rw [e0] at hv
      have e1 : v = 0 := by
        rcases hv with ⟨h, _⟩ | ⟨_, h⟩
        · exact h
        · rw [h]; unfold wrap64; omega
      rw [e1, memC_zero]; simp [wrap64]
    · rw [if_neg h2]
      have hg := mulG_pos hc hd h (fun c => h2 (Or.inl c)) (fun c => h2 (Or.inr c))
      rw [cls_mem (byG_pos hg e), sval_mul, r_val, r_val]
      refine by_mem (z := x * y) ?_ (hv.imp And.left id)
      rw [memC_dvd] at hx hy
      have g1 : ((mulG cM cR dM dR : Nat) : Int) ∣ (cM : Int) * dM := by
        rw [← Int.natCast_mul]; exact Int.natCast_dvd_natCast.2 (Nat.gcd_dvd_left _ _)
      have g2 : ((mulG cM cR dM dR : Nat) : Int) ∣ rI cM cR * dM := by
        have := Nat.dvd_trans (Nat.gcd_dvd_right (cM * dM) _) (Nat.gcd_dvd_left (rF cM cR * dM) (rF dM dR * cM))
        rw [Int.ofNat_dvd_left, Int.natAbs_mul, ← rF_abs]; exact this
      have g3 : ((mulG cM cR dM dR : Nat) : Int) ∣ rI dM dR * cM := by
        have := Nat.dvd_trans (Nat.gcd_dvd_right (cM * dM) _) (Nat.gcd_dvd_right (rF cM cR * dM) (rF dM dR * cM))
        rw [Int.ofNat_dvd_left, Int.natAbs_mul, ← rF_abs]; exact this
      obtain ⟨a, ha⟩ := hx
      obtain ⟨b, hb⟩ := hy
      have ex : x = rI cM cR + cM * a := by omega
      have ey : y = rI dM dR + dM * b := by omega
      have e : x * y - rI cM cR * rI dM dR = rI cM cR * dM * b + rI dM dR * cM * a + cM * dM * (a * b) := by
        rw [ex, ey, Int.add_mul, Int.mul_add, Int.mul_add]
        have p1 : rI cM cR * (↑dM * b) = rI cM cR * ↑dM * b := (Int.mul_assoc _ _ _).symm
        have p2 : ↑cM * a * rI dM dR = rI dM dR * ↑cM * a := by rw [Int.mul_comm (↑cM * a), Int.mul_assoc]
        have p3 : ↑cM * a * (↑dM * b) = ↑cM * ↑dM * (a * b) := by
          rw [Int.mul_assoc, Int.mul_assoc, Int.mul_left_comm a]
        rw [p1, p2, p3]; omega
      rw [e]
      exact Int.dvd_add (Int.dvd_add (Int.dvd_trans g2 (Int.dvd_mul_right _ _)) (Int.dvd_trans g3 (Int.dvd_mul_right _ _))) (Int.dvd_trans g1 (Int.dvd_mul_right _ _))
def remG (cM dM dR : Nat) : Nat := Nat.gcd (Nat.gcd cM dM) (rF dM dR)
def remC (cM cR dM dR : Nat) : Nat × Nat :=
  if dM = 0 ∧ dR = 0 then (1, 0)
  else if cM = 0 ∧ dM = 0 then (0, bitsN (if wrap64 (dR : Int) = -1 then 0 else (wrap64 (cR : Int)).tmod (wrap64 (dR : Int))))
  else (remG cM dM dR, restN (rF cM cR) (rS cM cR) (remG cM dM dR))
theorem rem_memC {cM cR dM dR : Nat} {x y : Int} (hx : MemC cM cR x) (hy : MemC dM dR y) (hxi : In64 x) (hyi : In64 y) (h0 : y ≠ 0) : MemC (remC cM cR dM dR).1 (remC cM cR dM dR).2 (x.tmod y) := by
  unfold remC
  by_cases h : dM = 0 ∧ dR = 0
  · obtain ⟨rfl, rfl⟩ := h
    rw [memC_zero] at hy
    exact absurd (by rw [hy]; simp [wrap64]) h0
  · rw [if_neg h]
    by_cases h2 : cM = 0 ∧ dM = 0
    · rw [if_pos h2]
      obtain ⟨rfl, rfl⟩ := h2
      rw [memC_zero] at hx hy
      rw [← hx, ← hy]
      have e : (if y = -1 then 0 else x.tmod y) = x.tmod y := by
        split
        · rename_i c; rw [c, Int.tmod_neg, Int.tmod_one]
        · rfl
      rw [e]
      refine bits_mem ?_
      have b1 := Int.tmod_add_mul_tdiv x y
      have b2 : x.tmod y = x - y * x.tdiv y := by omega
      have b3 : (x.tmod y).natAbs ≤ x.natAbs := by
        rw [Int.natAbs_tmod]; exact Nat.mod_le _ _
      have b4 : 0 ≤ x → 0 ≤ x.tmod y := fun h => Int.tmod_nonneg _ h
      have b5 : x ≤ 0 → x.tmod y ≤ 0 := fun h => by
        have := Int.tmod_nonneg y (show 0 ≤ -x by omega)
        rw [Int.neg_tmod] at this; omega
      unfold In64 at *; omega
    · rw [if_neg h2]
      have hg : 0 < remG cM dM dR := by
        apply Nat.pos_of_ne_zero
        intro c
        have a := Nat.gcd_eq_zero_iff.1 c
        exact h2 (Nat.gcd_eq_zero_iff.1 a.1)
      rw [cls_mem hg, r_val]
      rw [memC_dvd] at hx hy
      have d0 : (remG cM dM dR : Int) ∣ cM := Int.natCast_dvd_natCast.2 (Nat.dvd_trans (Nat.gcd_dvd_left _ _) (Nat.gcd_dvd_left _ _))
      have d1 : (remG cM dM dR : Int) ∣ dM := Int.natCast_dvd_natCast.2 (Nat.dvd_trans (Nat.gcd_dvd_left _ _) (Nat.gcd_dvd_right _ _))
      have d2 : (remG cM dM dR : Int) ∣ rI dM dR := by
        rw [Int.ofNat_dvd_left, ← rF_abs]; exact Nat.gcd_dvd_right _ _
      have d3 : (remG cM dM dR : Int) ∣ y := by
        have := Int.dvd_add (Int.dvd_trans d1 hy) d2
        rwa [show y - rI dM dR + rI dM dR = y by omega] at this
      have d4 : (remG cM dM dR : Int) ∣ y * x.tdiv y := Int.dvd_trans d3 (Int.dvd_mul_right _ _)
      have d5 := Int.dvd_sub (Int.dvd_trans d0 hx) d4
      have b1 := Int.tmod_add_mul_tdiv x y
      rwa [show x - rI cM cR - y * x.tdiv y = x.tmod y - rI cM cR by omega] at d5
end Go.Proofs.YtgkbegmaffknbaaGreat
