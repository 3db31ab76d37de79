import Derived.Test.YtgkbegmaffknbabGreatKImath
set_option linter.unusedVariables false
set_option linter.unusedSimpArgs false
/- Cmath Cdef -/
namespace Go.Proofs.YtgkbegmaffknbabGreat
section
open Go.RowKit
/-- The halves of a number of 128 bits. -/
def hiB (n : Nat) : Int := ((n / 18446744073709551616 : Nat) : Int)
def loB (n : Nat) : Int := ((n % 18446744073709551616 : Nat) : Int)
def Big (n : Nat) : Prop := n < 340282366920938463463374607431768211456
theorem big_small {n : Nat} (h : n < 18446744073709551616) : hiB n = 0 ∧ loB n = n := by unfold hiB loB; omega
theorem big_lt {a b : Nat} : (decide (hiB a < hiB b) || (hiB a == hiB b && decide (loB a < loB b))) = decide (a < b) := by
  have : (a < b) ↔ (hiB a < hiB b ∨ (hiB a = hiB b ∧ loB a < loB b)) := by unfold hiB loB; omega
  by_cases h : a < b
  · rw [decide_eq_true h]
    rcases this.1 h with h1 | ⟨h1, h2⟩
    · simp [h1]
    · simp [h1, h2]
  · rw [decide_eq_false h]
    have h3 := mt this.2 h
    simp only [not_or, not_and] at h3
    by_cases h1 : hiB a = hiB b
    · simp [h1, h3.2 h1]
    · simp [h1]; exact Int.not_lt.1 h3.1
/-- A step of long division. -/
theorem part_step {A m b : Nat} (hm : 0 < m) (hb : b < 2) :
    (m ≤ 2 * (A % m) + b → (2 * A + b) / m = 2 * (A / m) + 1 ∧ (2 * A + b) % m = 2 * (A % m) + b - m) ∧
    (¬ m ≤ 2 * (A % m) + b → (2 * A + b) / m = 2 * (A / m) ∧ (2 * A + b) % m = 2 * (A % m) + b) := by
  have e : A = m * (A / m) + A % m := (Nat.div_add_mod A m).symm
  have hr : A % m < m := Nat.mod_lt _ hm
  generalize hq : A / m = q at *
  generalize hrr : A % m = r at *
  have e1 : 2 * A + b = m * (2 * q) + (2 * r + b) := by rw [e, Nat.mul_left_comm m 2 q]; omega
  constructor
  · intro h
    have e2 : 2 * A + b = (2 * r + b - m) + m * (2 * q + 1) := by rw [e1, Nat.mul_add, Nat.mul_one]; omega
    rw [e2, Nat.add_mul_div_left _ _ hm, Nat.add_mul_mod_self_left, Nat.div_eq_of_lt (by omega), Nat.mod_eq_of_lt (by omega)]
    omega
  · intro h
    have e2 : 2 * A + b = (2 * r + b) + m * (2 * q) := by rw [e1]; omega
    rw [e2, Nat.add_mul_div_left _ _ hm, Nat.add_mul_mod_self_left, Nat.div_eq_of_lt (by omega), Nat.mod_eq_of_lt (by omega)]
    omega
theorem bit_step (a i : Nat) : a / 2 ^ i = 2 * (a / 2 ^ (i + 1)) + a / 2 ^ i % 2 := by
  rw [Nat.pow_succ, ← Nat.div_div_eq_div_mul]; omega
theorem even_or {k b : Nat} (hb : b < 2) : (2 * k) ||| b = 2 * k + b := by
  have := Nat.two_pow_add_eq_or_of_lt (i := 1) (by simpa using hb) k
  simpa using this.symm
end
section
open Go.RowKit
def U64 (a : Nat) : Prop := a < 18446744073709551616
/-- A whole number by its distance and its side. -/
def sval (f : Nat) (s : Bool) : Int := if s = true then -(f : Int) else f
def rF (M R : Nat) : Nat := if M = 0 then (wrap64 (R : Int)).natAbs else R % M
def rS (M R : Nat) : Bool := if M = 0 then decide (wrap64 (R : Int) < 0) else false
/-- r(c). -/
def rI (M R : Nat) : Int := if M = 0 then wrap64 (R : Int) else ((R % M : Nat) : Int)
theorem r_val (M R : Nat) : sval (rF M R) (rS M R) = rI M R := by
  unfold sval rF rS rI
  by_cases h : M = 0
  · rw [if_pos h, if_pos h, if_pos h]
    by_cases c : wrap64 (R : Int) < 0
    · rw [decide_eq_true c, if_pos rfl]; omega
    · rw [decide_eq_false c, if_neg (by simp)]; omega
  · rw [if_neg h, if_neg h, if_neg h, if_neg (by simp)]
theorem rF_rng {M R : Nat} (hM : U64 M) (hR : U64 R) : rF M R < 18446744073709551616 := by
  unfold rF; unfold U64 at *
  by_cases h : M = 0
  · rw [if_pos h]; have := wrap64_in (R : Int); unfold In64 at this; omega
  · rw [if_neg h]; have := Nat.mod_le R M; omega
/-- x mod m. -/
def restN (f : Nat) (s : Bool) (m : Nat) : Nat := if s = true ∧ f % m ≠ 0 then m - f % m else f % m
theorem restN_lt {f : Nat} {s : Bool} {m : Nat} (hm : 0 < m) : restN f s m < m := by
  unfold restN; have := Nat.mod_lt f hm; split <;> omega
theorem restN_val {f : Nat} {s : Bool} {m : Nat} (hm : 0 < m) : (restN f s m : Int) = sval f s % (m : Int) := by
  have hl := Nat.mod_lt f hm
  have e : (f : Int) = (m : Int) * ((f / m : Nat) : Int) + ((f % m : Nat) : Int) := by
    have := (Nat.div_add_mod f m).symm
    exact_mod_cast this
  unfold restN sval
  cases s with
  | false => simp
  | true =>
    simp only [if_true, true_and]
    by_cases h0 : f % m = 0
    · rw [if_neg (by simp [h0]), h0]
      rw [h0] at e
      have e2 : -(f : Int) = (m : Int) * (-((f / m : Nat) : Int)) := by rw [e]; simp [Int.mul_neg]
      rw [e2, Int.mul_emod_right]; rfl
    · rw [if_pos h0]
      have e2 : -(f : Int) = ((m - f % m : Nat) : Int) + (m : Int) * (-((f / m : Nat) : Int) - 1) := by
        rw [Int.ofNat_sub (by omega), Int.mul_sub, Int.mul_one, Int.mul_neg]
        omega
      rw [e2, Int.add_mul_emod_self_left, Int.emod_eq_of_lt (by omega) (by omega)]
end
end Go.Proofs.YtgkbegmaffknbabGreat
