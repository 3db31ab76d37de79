import Derived.Test.YtgkbegmaffknbaaGreatHCsub
set_option linter.unusedVariables false
set_option linter.unusedSimpArgs false
/- Chd -/
namespace Go.Proofs.YtgkbegmaffknbaaGreat
open Go.RowKit
theorem bits_dvd {g : Nat} : ∀ {i : Nat}, (∀ j, j < i → g / 2 ^ j % 2 = 0) → 2 ^ i ∣ g := by
  intro i
  induction i with
  | zero => intro _; simp
  | succ i ih =>
    intro h
    obtain ⟨q, hq⟩ := ih (fun j hj => h j (by omega))
    have h1 := h i (by omega)
    rw [hq, Nat.mul_div_cancel_left _ (Nat.pow_pos (by omega))] at h1
    exact ⟨q / 2, by rw [hq, Nat.pow_succ, Nat.mul_assoc]; congr 1; omega⟩
theorem twoN_dvd (g : Nat) : twoN g ∣ g ∧ twoN g ∣ 18446744073709551616 := by
  unfold twoN
  split
  · rename_i i h
    have h2 := List.find?_range_eq_some.1 h
    have hi : i < 63 := by simpa using h2.2.1
    refine ⟨bits_dvd (fun j hj => ?_), ?_⟩
    · have := h2.2.2 j hj
      have h3 : ¬ g / 2 ^ j % 2 = 1 := by simpa using this
      omega
    · rw [show (18446744073709551616 : Nat) = 2 ^ 64 from rfl]
      exact Nat.pow_dvd_pow 2 (by omega)
  · rename_i h
    have h2 := List.find?_eq_none.1 h
    refine ⟨?_, ⟨2, rfl⟩⟩
    rw [show (9223372036854775808 : Nat) = 2 ^ 63 from rfl]
    refine bits_dvd (fun j hj => ?_)
    have := h2 j (by simpa using hj)
    have h3 : ¬ g / 2 ^ j % 2 = 1 := by simpa using this
    omega
theorem byG_dvd (g : Nat) (e : Bool) : byG g e ∣ g := by
  unfold byG; split
  · exact Nat.dvd_refl _
  · exact (twoN_dvd g).1
theorem byG_pos {g : Nat} (h : 0 < g) (e : Bool) : 0 < byG g e := by
  unfold byG; split
  · exact h
  · exact twoN_pos g
/-- Where results may wrap the class is by a power of two. -/
theorem byG_false (g : Nat) : byG g false ∣ 18446744073709551616 := by
  unfold byG; rw [if_neg (by simp)]; exact (twoN_dvd g).2
theorem cls_mem {f : Nat} {s : Bool} {m : Nat} (hm : 0 < m) (v : Int) : MemC m (restN f s m) v ↔ (m : Int) ∣ v - sval f s := by
  rw [memC_pos hm, Nat.mod_eq_of_lt (restN_lt hm), restN_val hm, Int.emod_eq_emod_iff_emod_sub_eq_zero]
  exact ⟨Int.dvd_of_emod_eq_zero, Int.emod_eq_zero_of_dvd⟩
theorem wrap_dvd (z : Int) : (18446744073709551616 : Int) ∣ wrap64 z - z := by
  unfold wrap64; exact ⟨-((z + 9223372036854775808) / 18446744073709551616), by omega⟩
/-- A result that is what was meant, or, where the class is by a power of two, wrapped. -/
theorem by_mem {g : Nat} {e : Bool} {z t v : Int} (hd : (g : Int) ∣ z - t) (hv : v = z ∨ (e = false ∧ v = wrap64 z)) : (byG g e : Int) ∣ v - t := by
  have h1 : (byG g e : Int) ∣ z - t := Int.dvd_trans (Int.natCast_dvd_natCast.2 (byG_dvd g e)) hd
  rcases hv with rfl | ⟨rfl, rfl⟩
  · exact h1
  · have h0 : (byG g false : Int) ∣ (18446744073709551616 : Int) := Int.natCast_dvd_natCast.2 (byG_false g)
    have h2 : (byG g false : Int) ∣ wrap64 z - z := Int.dvd_trans h0 (wrap_dvd z)
    have := Int.dvd_add h2 h1
    rwa [show wrap64 z - z + (z - t) = wrap64 z - t by omega] at this
theorem bits_mem {v : Int} (hv : In64 v) : MemC 0 (bitsN v) v := memC_zero.2 (wrap_bits hv).symm
theorem neg_memC {M R : Nat} {e : Bool} {x v : Int} (hx : MemC M R x) (hxi : In64 x) (hv : v = -x ∧ In64 v ∨ (e = false ∧ v = wrap64 (-x))) : MemC (negC M R e).1 (negC M R e).2 v := by
  unfold negC
  by_cases h : M = 0
  · rw [if_pos h]
    subst h
    rw [memC_zero] at hx
    have e1 : v = wrap64 (-x) := by
      rcases hv with ⟨rfl, h⟩ | ⟨_, h⟩
      · exact (wrap64_id h).symm
      · exact h
    rw [← hx, ← e1]
    refine bits_mem ?_
    rw [e1]; exact wrap64_in _
  · rw [if_neg h]
    have hM : 0 < M := by omega
    rw [cls_mem (byG_pos hM e)]
    rw [memC_dvd] at hx
    refine by_mem (z := -x) ?_ (hv.imp And.left id)
    have e2 : sval (rF M R) true = -(rI M R) := by
      unfold sval rF rI; rw [if_neg h, if_neg h]; simp
    rw [e2, show -x - -(rI M R) = -(x - rI M R) by omega]
    exact (Int.dvd_neg).2 hx
theorem add_memC {cM cR dM dR : Nat} {e : Bool} {x y v : Int} (hx : MemC cM cR x) (hy : MemC dM dR y) (hv : v = x + y ∧ In64 v ∨ (e = false ∧ v = wrap64 (x + y))) : MemC (addC cM cR dM dR e).1 (addC cM cR dM dR e).2 v := by
  unfold addC
  by_cases h : cM = 0 ∧ dM = 0
  · rw [if_pos h]
    obtain ⟨rfl, rfl⟩ := h
    rw [memC_zero] at hx hy
    have e1 : v = wrap64 (x + y) := by
      rcases hv with ⟨rfl, h⟩ | ⟨_, h⟩
      · exact (wrap64_id h).symm
      · exact h
    rw [← hx, ← hy, ← e1]
    refine bits_mem ?_
    rw [e1]; exact wrap64_in _
  · rw [if_neg h]
    have hg : 0 < Nat.gcd cM dM := Nat.pos_of_ne_zero fun c => h (Nat.gcd_eq_zero_iff.1 c)
    rw [cls_mem (byG_pos hg e), sum_val, r_val, r_val]
    rw [memC_dvd] at hx hy
    refine by_mem (z := x + y) ?_ (hv.imp And.left id)
    rw [show x + y - (rI cM cR + rI dM dR) = (x - rI cM cR) + (y - rI dM dR) by omega]
    exact Int.dvd_add (Int.dvd_trans (Int.natCast_dvd_natCast.2 (Nat.gcd_dvd_left _ _)) hx) (Int.dvd_trans (Int.natCast_dvd_natCast.2 (Nat.gcd_dvd_right _ _)) hy)
theorem sval_not (f : Nat) (s : Bool) : sval f (!s) = -(sval f s) := by unfold sval; cases s <;> simp
theorem sub_memC {cM cR dM dR : Nat} {e : Bool} {x y v : Int} (hx : MemC cM cR x) (hy : MemC dM dR y) (hv : v = x - y ∧ In64 v ∨ (e = false ∧ v = wrap64 (x - y))) : MemC (subC cM cR dM dR e).1 (subC cM cR dM dR e).2 v := by
  unfold subC
  by_cases h : cM = 0 ∧ dM = 0
  · rw [if_pos h]
    obtain ⟨rfl, rfl⟩ := h
    rw [memC_zero] at hx hy
    have e1 : v = wrap64 (x - y) := by
      rcases hv with ⟨rfl, h⟩ | ⟨_, h⟩
      · exact (wrap64_id h).symm
      · exact h
    rw [← hx, ← hy, ← e1]
    refine bits_mem ?_
    rw [e1]; exact wrap64_in _
  · rw [if_neg h]
    have hg : 0 < Nat.gcd cM dM := Nat.pos_of_ne_zero fun c => h (Nat.gcd_eq_zero_iff.1 c)
    rw [cls_mem (byG_pos hg e), sum_val, sval_not, r_val, r_val]
    rw [memC_dvd] at hx hy
    refine by_mem (z := x - y) ?_ (hv.imp And.left id)
    rw [show x - y - (rI cM cR + -(rI dM dR)) = (x - rI cM cR) - (y - rI dM dR) by omega]
    exact Int.dvd_sub (Int.dvd_trans (Int.natCast_dvd_natCast.2 (Nat.gcd_dvd_left _ _)) hx) (Int.dvd_trans (Int.natCast_dvd_natCast.2 (Nat.gcd_dvd_right _ _)) hy)
end Go.Proofs.YtgkbegmaffknbaaGreat
