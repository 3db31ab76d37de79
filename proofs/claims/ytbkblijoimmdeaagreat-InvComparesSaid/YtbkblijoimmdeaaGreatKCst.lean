import Derived.Test.YtbkblijoimmdeaaGreatKCdown
set_option linter.unusedVariables false
set_option linter.unusedSimpArgs false
/- Cst -/
namespace Go.Proofs.YtbkblijoimmdeaaGreat
open Go.RowKit
theorem atN_val {M : Nat} {v : Int} (hM : 0 < M) (hv : In64 v) : (atN M v : Int) = v % (M : Int) := by
  unfold atN; rw [rest_mod hM, rI_zero, wrap_bits hv]
theorem mod_sub_val {M a b : Nat} {x y : Int} (hM : 0 < M) (ha : (a : Int) = x % (M : Int)) (hb : (b : Int) = y % (M : Int)) : (((a + (M - b) % M) % M : Nat) : Int) = (x - y) % (M : Int) := by
  have hbl : b < M := by have := Int.emod_lt_of_pos y (show (0 : Int) < M by omega); omega
  rw [Int.natCast_emod, Int.natCast_add, Int.natCast_emod, Int.ofNat_sub (by omega), Int.add_emod_emod, ha, hb, ← Int.add_sub_assoc, Int.sub_emod_emod]
  rw [Int.emod_eq_emod_iff_emod_sub_eq_zero]
  apply Int.emod_eq_zero_of_dvd
  refine ⟨1 - x / (M : Int), ?_⟩
  have := Int.emod_add_mul_ediv x (M : Int)
  rw [Int.mul_sub, Int.mul_one]
  omega
theorem upN_val {M R : Nat} {v : Int} (hM : 0 < M) (hv : In64 v) : (upN M R v : Int) = (rI M R - v) % (M : Int) := mod_sub_val hM (rest_mod hM) (atN_val hM hv)
theorem downN_val {M R : Nat} {v : Int} (hM : 0 < M) (hv : In64 v) : (downN M R v : Int) = (v - rI M R) % (M : Int) := mod_sub_val hM (atN_val hM hv) (rest_mod hM)
/-- The next number of a class, from v up. -/
theorem next_up {m r v x : Int} (hm : 0 < m) (hx : m ∣ x - r) (h : v ≤ x) : v + (r - v) % m ≤ x := by
  have h1 : (x - v) % m = (r - v) % m := by
    rw [Int.emod_eq_emod_iff_emod_sub_eq_zero, show x - v - (r - v) = x - r by omega]
    exact Int.emod_eq_zero_of_dvd hx
  have h2 := Int.emod_add_mul_ediv (x - v) m
  have h3 : 0 ≤ m * ((x - v) / m) := Int.mul_nonneg (by omega) (Int.ediv_nonneg (by omega) (by omega))
  omega
theorem next_in {m r v : Int} : m ∣ v + (r - v) % m - r := by
  have := Int.emod_add_mul_ediv (r - v) m
  exact ⟨-((r - v) / m), by rw [Int.mul_neg]; omega⟩
theorem next_down {m r v x : Int} (hm : 0 < m) (hx : m ∣ x - r) (h : x ≤ v) : x ≤ v - (v - r) % m := by
  have h1 : (v - x) % m = (v - r) % m := by
    rw [Int.emod_eq_emod_iff_emod_sub_eq_zero, show v - x - (v - r) = -(x - r) by omega]
    exact Int.emod_eq_zero_of_dvd ((Int.dvd_neg).2 hx)
  have h2 := Int.emod_add_mul_ediv (v - x) m
  have h3 : 0 ≤ m * ((v - x) / m) := Int.mul_nonneg (by omega) (Int.ediv_nonneg (by omega) (by omega))
  omega
theorem prev_in {m r v : Int} : m ∣ v - (v - r) % m - r := by
  have := Int.emod_add_mul_ediv (v - r) m
  exact ⟨(v - r) / m, by omega⟩
/-- Up: the least number of the class from v to MaxInt; or there is none. -/
theorem up_is {M R : Nat} {v : Int} (hv : In64 v) :
    ((upC M R v).2 = true → MemC M R (upC M R v).1 ∧ v ≤ (upC M R v).1 ∧ In64 (upC M R v).1 ∧ ∀ x, MemC M R x → v ≤ x → (upC M R v).1 ≤ x) ∧
    ((upC M R v).2 = false → (upC M R v).1 = 0 ∧ ∀ x, MemC M R x → In64 x → x < v) := by
  unfold upC
  by_cases hM : M = 0
  · subst hM
    rw [if_pos rfl]
    by_cases h : wrap64 (R : Int) < v
    · rw [if_pos h]
      refine ⟨by simp, fun _ => ⟨rfl, fun x hx _ => ?_⟩⟩
      rw [memC_zero] at hx; omega
    · rw [if_neg h]
      refine ⟨fun _ => ⟨memC_zero.2 rfl, by simp only; omega, wrap64_in _, fun x hx _ => ?_⟩, by simp⟩
      rw [memC_zero] at hx; simp only; omega
  · rw [if_neg hM, upN_val (by omega) hv]
    have hm : (0 : Int) < (M : Int) := by omega
    have n0 := Int.emod_nonneg (rI M R - v) (show (M : Int) ≠ 0 by omega)
    unfold In64 at hv
    by_cases h : 9223372036854775807 - v < (rI M R - v) % (M : Int)
    · rw [if_pos h]
      refine ⟨by simp, fun _ => ⟨rfl, fun x hx hi => ?_⟩⟩
      rw [memC_dvd] at hx
      unfold In64 at hi
      by_cases c : v ≤ x
      · have := next_up hm hx c; omega
      · omega
    · rw [if_neg h]
      refine ⟨fun _ => ⟨(memC_dvd _ _ _).2 next_in, by simp only; omega, by unfold In64; simp only; omega, fun x hx c => next_up hm ((memC_dvd _ _ _).1 hx) c⟩, by simp⟩
/-- Down: the greatest number of the class from MinInt to v; or there is none. -/
theorem down_is {M R : Nat} {v : Int} (hv : In64 v) :
    ((downC M R v).2 = true → MemC M R (downC M R v).1 ∧ (downC M R v).1 ≤ v ∧ In64 (downC M R v).1 ∧ ∀ x, MemC M R x → x ≤ v → x ≤ (downC M R v).1) ∧
    ((downC M R v).2 = false → (downC M R v).1 = 0 ∧ ∀ x, MemC M R x → In64 x → v < x) := by
  unfold downC
  by_cases hM : M = 0
  · subst hM
    rw [if_pos rfl]
    by_cases h : v < wrap64 (R : Int)
    · rw [if_pos h]
      refine ⟨by simp, fun _ => ⟨rfl, fun x hx _ => ?_⟩⟩
      rw [memC_zero] at hx; omega
    · rw [if_neg h]
      refine ⟨fun _ => ⟨memC_zero.2 rfl, by simp only; omega, wrap64_in _, fun x hx _ => ?_⟩, by simp⟩
      rw [memC_zero] at hx; simp only; omega
  · rw [if_neg hM, downN_val (by omega) hv]
    have hm : (0 : Int) < (M : Int) := by omega
    have n0 := Int.emod_nonneg (v - rI M R) (show (M : Int) ≠ 0 by omega)
    unfold In64 at hv
    by_cases h : v + 9223372036854775808 < (v - rI M R) % (M : Int)
    · rw [if_pos h]
      refine ⟨by simp, fun _ => ⟨rfl, fun x hx hi => ?_⟩⟩
      rw [memC_dvd] at hx
      unfold In64 at hi
      by_cases c : x ≤ v
      · have := next_down hm hx c; omega
      · omega
    · rw [if_neg h]
      refine ⟨fun _ => ⟨(memC_dvd _ _ _).2 prev_in, by simp only; omega, by unfold In64; simp only; omega, fun x hx c => next_down hm ((memC_dvd _ _ _).1 hx) c⟩, by simp⟩
end Go.Proofs.YtbkblijoimmdeaaGreat
