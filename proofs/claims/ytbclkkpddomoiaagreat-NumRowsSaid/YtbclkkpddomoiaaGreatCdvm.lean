import Derived.Test.YtbclkkpddomoiaaGreatCml
set_option linter.unusedVariables false
set_option linter.unusedSimpArgs false
/- Div of classes holds all results: plain mathematics. -/
namespace Go.Proofs.YtbclkkpddomoiaaGreat
open Go.RowKit
def divC (cM cR dM dR : Nat) : Nat × Nat :=
  if 0 < dM ∨ wrap64 (dR : Int) = 0 then (1, 0)
  else if cM = 0 then (0, bitsN (if wrap64 (dR : Int) = -1 then wrap64 (-(wrap64 (cR : Int))) else (wrap64 (cR : Int)).tdiv (wrap64 (dR : Int))))
  else if wrap64 (dR : Int) = -1 ∨ cM % (wrap64 (dR : Int)).natAbs ≠ 0 ∨ cR % cM % (wrap64 (dR : Int)).natAbs ≠ 0 then (1, 0)
  else (cM / (wrap64 (dR : Int)).natAbs, restN (cR % cM / (wrap64 (dR : Int)).natAbs) (decide (wrap64 (dR : Int) < 0)) (cM / (wrap64 (dR : Int)).natAbs))
theorem all_mem (v : Int) : MemC 1 0 v := by rw [memC_pos (by omega)]; simp
theorem tdiv_in64 {x y : Int} (hx : In64 x) (h1 : y ≠ -1) : In64 (x.tdiv y) := by
  have a : (x.tdiv y).natAbs = x.natAbs / y.natAbs := Int.natAbs_tdiv x y
  by_cases h0 : y.natAbs < 2
  · have : y = 0 ∨ y = 1 := by omega
    rcases this with rfl | rfl
    · rw [Int.tdiv_zero]; unfold In64; omega
    · rw [Int.tdiv_one]; exact hx
  · have b : x.natAbs / y.natAbs ≤ x.natAbs / 2 := Nat.div_le_div_left (by omega) (by omega)
    unfold In64 at *; omega
theorem div_memC {cM cR dM dR : Nat} {x y v : Int} (hx : MemC cM cR x) (hy : MemC dM dR y) (hxi : In64 x) (h0 : y ≠ 0) (hv : v = if y = -1 then wrap64 (-x) else x.tdiv y) : MemC (divC cM cR dM dR).1 (divC cM cR dM dR).2 v := by
  unfold divC
  by_cases h : 0 < dM ∨ wrap64 (dR : Int) = 0
  · rw [if_pos h]; exact all_mem v
  · rw [if_neg h]
    have hd : dM = 0 := by omega
    subst hd
    rw [memC_zero] at hy
    rw [← hy]
    by_cases hc : cM = 0
    · rw [if_pos hc]
      subst hc
      rw [memC_zero] at hx
      rw [← hx, ← hv]
      refine bits_mem ?_
      rw [hv]
      split
      · exact wrap64_in _
      · rename_i c; exact tdiv_in64 hxi c
    · rw [if_neg hc]
      by_cases h2 : y = -1 ∨ cM % y.natAbs ≠ 0 ∨ cR % cM % y.natAbs ≠ 0
      · rw [if_pos h2]; exact all_mem v
      · rw [if_neg h2]
        have k1 : y ≠ -1 := fun c => h2 (Or.inl c)
        have k2 : cM % y.natAbs = 0 := Classical.byContradiction fun c => h2 (Or.inr (Or.inl c))
        have k3 : cR % cM % y.natAbs = 0 := Classical.byContradiction fun c => h2 (Or.inr (Or.inr c))
        rw [if_neg k1] at hv
        have hn : 0 < y.natAbs := by omega
        obtain ⟨p, hp⟩ := Nat.dvd_of_mod_eq_zero k2
        obtain ⟨q, hq⟩ := Nat.dvd_of_mod_eq_zero k3
        have e1 : cM / y.natAbs = p := by rw [hp, Nat.mul_div_cancel_left _ hn]
        have e2 : cR % cM / y.natAbs = q := by rw [hq, Nat.mul_div_cancel_left _ hn]
        have hp0 : 0 < p := by
          apply Nat.pos_of_ne_zero; intro c; rw [c, Nat.mul_zero] at hp; exact hc hp
        rw [e1, e2, cls_mem hp0]
        rw [memC_dvd, rI_pos (by omega), hq, hp] at hx
        obtain ⟨a, ha⟩ := hx
        rw [Int.natCast_mul, Int.natCast_mul] at ha
        have ex : x = (y.natAbs : Int) * (q + p * a) := by
          rw [Int.mul_add, ← Int.mul_assoc]; omega
        have ev : v = (if y < 0 then -1 else 1) * ((q : Int) + p * a) := by
          rw [hv, ex]
          by_cases s : y < 0
          · rw [if_pos s]
            have : (y.natAbs : Int) = -y := by omega
            rw [this, Int.neg_mul, Int.neg_tdiv, Int.mul_tdiv_cancel_left _ h0, Int.neg_mul, Int.one_mul]
          · rw [if_neg s]
            have : (y.natAbs : Int) = y := by omega
            rw [this, Int.mul_tdiv_cancel_left _ h0, Int.one_mul]
        rw [ev]
        unfold sval
        by_cases s : y < 0
        · rw [if_pos s, decide_eq_true s, if_pos rfl]
          exact ⟨-a, by rw [Int.mul_neg]; omega⟩
        · rw [if_neg s, decide_eq_false s, if_neg (by simp)]
          exact ⟨a, by omega⟩
end Go.Proofs.YtbclkkpddomoiaaGreat
