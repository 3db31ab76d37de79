import Derived.Test.YtckkfmgbpembjaaCsem
set_option linter.unusedVariables false
set_option linter.unusedSimpArgs false
/- What the laws of classes reckon themselves (plain mathematics): rests, numbers of a class, whether a result wraps. -/
namespace Go.Proofs.Ytckkfmgbpembjaa
open Go.RowKit
theorem emod_of {v r m k : Int} (h : v = r + m * k) (h0 : 0 ≤ r) (h1 : r < m) : v % m = r := by
  rw [h, Int.add_mul_emod_self_left, Int.emod_eq_of_lt h0 h1]
theorem rest_below {v : Int} {m : Int} (hm : 0 < m) : m - 1 - (-(v + 1)) % m = v % m := by
  have a := Int.emod_nonneg (-(v + 1)) (show m ≠ 0 by omega)
  have b := Int.emod_lt_of_pos (-(v + 1)) hm
  have c := Int.mul_ediv_add_emod (-(v + 1)) m
  refine (emod_of (k := -((-(v + 1)) / m) - 1) ?_ (by omega) (by omega)).symm
  rw [Int.mul_sub, Int.mul_neg]
  omega
/-- A number of the class, a step from v. -/
theorem near_mem {M R : Nat} (hM : 0 < M) {v d : Int} (j : Int) (h : d = (M : Int) * j + (((R % M : Nat) : Int) - v % (M : Int))) : MemC M R (v + d) := by
  rw [memC_pos hM]
  have c := Int.mul_ediv_add_emod v (M : Int)
  have b := Nat.mod_lt R hM
  refine emod_of (k := v / (M : Int) + j) ?_ (by omega) (by omega)
  rw [Int.mul_add]
  omega
theorem mul_back {x y : Int} (hx : In64 x) (hy : In64 y) (h0 : x ≠ 0) (h1 : x ≠ -1) : decide (¬ (wrap64 (x * y)).tdiv x = y) = decide (¬ In64 (x * y)) := by
  by_cases h : In64 (x * y)
  · rw [wrap64_id h, Int.mul_tdiv_cancel_left _ h0]
    simp [h]
  · have : ¬ (wrap64 (x * y)).tdiv x = y := by
      intro e
      have a := Int.mul_tdiv_add_tmod (wrap64 (x * y)) x
      rw [e] at a
      have b : ((wrap64 (x * y)).tmod x).natAbs < x.natAbs := by
        rw [Int.natAbs_tmod]; exact Nat.mod_lt _ (by omega)
      have c : wrap64 (x * y) ≠ x * y := fun e => h (e ▸ wrap64_in _)
      unfold In64 at hx
      generalize x * y = z at *
      generalize (wrap64 z).tmod x = T at *
      unfold wrap64 at a c
      omega
    simp [h, this]
theorem mul_minus {y : Int} (hy : In64 y) : decide (y = -9223372036854775808) = decide (¬ In64 (-1 * y)) := by
  unfold In64 at *
  by_cases h : y = -9223372036854775808
  · simp [h]
  · simp [h]; omega
end Go.Proofs.Ytckkfmgbpembjaa
