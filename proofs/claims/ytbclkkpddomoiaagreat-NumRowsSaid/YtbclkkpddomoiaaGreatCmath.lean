import Derived.Test.YtbclkkpddomoiaaGreatImath
set_option linter.unusedVariables false
set_option linter.unusedSimpArgs false
/- Numbers of 128 bits in two halves; long division: plain mathematics. -/
namespace Go.Proofs.YtbclkkpddomoiaaGreat
open Go.RowKit
/-- The halves of a number of 128 bits. -/
def hiB (n : Nat) : Int := ((n / 18446744073709551616 : Nat) : Int)
def loB (n : Nat) : Int := ((n % 18446744073709551616 : Nat) : Int)
def Big (n : Nat) : Prop := n < 340282366920938463463374607431768211456
theorem hiB_rng {n : Nat} (h : Big n) : 0 ≤ hiB n ∧ hiB n < 18446744073709551616 := by unfold hiB; unfold Big at h; omega
theorem loB_rng (n : Nat) : 0 ≤ loB n ∧ loB n < 18446744073709551616 := by unfold loB; omega
theorem hiB_of {n h l : Nat} (e : n = h * 18446744073709551616 + l) (hl : l < 18446744073709551616) : hiB n = h := by unfold hiB; omega
theorem loB_of {n h l : Nat} (e : n = h * 18446744073709551616 + l) (hl : l < 18446744073709551616) : loB n = l := by unfold loB; omega
theorem big_small {n : Nat} (h : n < 18446744073709551616) : hiB n = 0 ∧ loB n = n := by unfold hiB loB; omega
theorem big_eq {a b : Nat} : (hiB a = hiB b ∧ loB a = loB b) ↔ a = b := by unfold hiB loB; constructor <;> intro h <;> omega
theorem big_lt {a b : Nat} : (decide (hiB a < hiB b) || (hiB a == hiB b && decide (loB a < loB b))) = decide (a < b) := by
  have : (a < b) ↔ (hiB a < hiB b ∨ (hiB a = hiB b ∧ loB a < loB b)) := by unfold hiB loB; omega
  by_cases h : a < b
  · rw [decide_eq_true h]
    rcases this.1 h with h1 | ⟨h1, h2⟩
    · simp [h1]
    · simp [h1, h2]
  · rw [decide_eq_false h]
    have h3 := mt this.2 h
    simp only [not_or, not_and] at h3
    by_cases h1 : hiB a = hiB b
    · simp [h1, h3.2 h1]
    · simp [h1]; exact Int.not_lt.1 h3.1
/-- A step of long division. -/
theorem part_step {A m b : Nat} (hm : 0 < m) (hb : b < 2) :
    (m ≤ 2 * (A % m) + b → (2 * A + b) / m = 2 * (A / m) + 1 ∧ (2 * A + b) % m = 2 * (A % m) + b - m) ∧
    (¬ m ≤ 2 * (A % m) + b → (2 * A + b) / m = 2 * (A / m) ∧ (2 * A + b) % m = 2 * (A % m) + b) := by
  have e : A = m * (A / m) + A % m := (Nat.div_add_mod A m).symm
  have hr : A % m < m := Nat.mod_lt _ hm
  generalize hq : A / m = q at *
  generalize hrr : A % m = r at *
  have e1 : 2 * A + b = m * (2 * q) + (2 * r + b) := by rw [e, Nat.mul_left_comm m 2 q]; omega
  constructor
  · intro h
    have e2 : 2 * A + b = (2 * r + b - m) + m * (2 * q + 1) := by rw [e1, Nat.mul_add, Nat.mul_one]; omega
    rw [e2, Nat.add_mul_div_left _ _ hm, Nat.add_mul_mod_self_left, Nat.div_eq_of_lt (by omega), Nat.mod_eq_of_lt (by omega)]
    omega
  · intro h
    have e2 : 2 * A + b = (2 * r + b) + m * (2 * q) := by rw [e1]; omega
    rw [e2, Nat.add_mul_div_left _ _ hm, Nat.add_mul_mod_self_left, Nat.div_eq_of_lt (by omega), Nat.mod_eq_of_lt (by omega)]
    omega
theorem bit_step (a i : Nat) : a / 2 ^ i = 2 * (a / 2 ^ (i + 1)) + a / 2 ^ i % 2 := by
  rw [Nat.pow_succ, ← Nat.div_div_eq_div_mul]; omega
theorem even_or {k b : Nat} (hb : b < 2) : (2 * k) ||| b = 2 * k + b := by
  have := Nat.two_pow_add_eq_or_of_lt (i := 1) (by simpa using hb) k
  simpa using this.symm
end Go.Proofs.YtbclkkpddomoiaaGreat
