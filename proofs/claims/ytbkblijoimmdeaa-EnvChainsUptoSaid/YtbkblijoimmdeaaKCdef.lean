import Derived.Test.YtbkblijoimmdeaaKImath
set_option linter.unusedVariables false
set_option linter.unusedSimpArgs false
/- Cmath Cdef -/
namespace Go.Proofs.Ytbkblijoimmdeaa
section
open Go.RowKit
/-- The halves of a number of 128 bits. -/
def hiB (n : Nat) : Int := ((n / 18446744073709551616 : Nat) : Int)
def loB (n : Nat) : Int := ((n % 18446744073709551616 : Nat) : Int)
def Big (n : Nat) : Prop := n < 340282366920938463463374607431768211456
theorem big_small {n : Nat} (h : n < 18446744073709551616) : hiB n = 0 ∧ loB n = n := by unfold hiB loB; omega
end
section
open Go.RowKit
def U64 (a : Nat) : Prop := a < 18446744073709551616
/-- A whole number by its distance and its side. -/
def sval (f : Nat) (s : Bool) : Int := if s = true then -(f : Int) else f
def rF (M R : Nat) : Nat := if M = 0 then (wrap64 (R : Int)).natAbs else R % M
def rS (M R : Nat) : Bool := if M = 0 then decide (wrap64 (R : Int) < 0) else false
/-- r(c). -/
def rI (M R : Nat) : Int := if M = 0 then wrap64 (R : Int) else ((R % M : Nat) : Int)
theorem r_val (M R : Nat) : sval (rF M R) (rS M R) = rI M R := by
  unfold sval rF rS rI
  by_cases h : M = 0
  · rw [if_pos h, if_pos h, if_pos h]
    by_cases c : wrap64 (R : Int) < 0
    · rw [decide_eq_true c, if_pos rfl]; omega
    · rw [decide_eq_false c, if_neg (by simp)]; omega
  · rw [if_neg h, if_neg h, if_neg h, if_neg (by simp)]
/-- x mod m. -/
def restN (f : Nat) (s : Bool) (m : Nat) : Nat := if s = true ∧ f % m ≠ 0 then m - f % m else f % m
theorem restN_val {f : Nat} {s : Bool} {m : Nat} (hm : 0 < m) : (restN f s m : Int) = sval f s % (m : Int) := by
  have hl := Nat.mod_lt f hm
  have e : (f : Int) = (m : Int) * ((f / m : Nat) : Int) + ((f % m : Nat) : Int) := by
    have := (Nat.div_add_mod f m).symm
    exact_mod_cast this
  unfold restN sval
  cases s with
  | false => simp
  | true =>
    simp only [if_true, true_and]
    by_cases h0 : f % m = 0
    · rw [if_neg (by simp [h0]), h0]
      rw [h0] at e
      have e2 : -(f : Int) = (m : Int) * (-((f / m : Nat) : Int)) := by rw [e]; simp [Int.mul_neg]
      rw [e2, Int.mul_emod_right]; rfl
    · rw [if_pos h0]
      have e2 : -(f : Int) = ((m - f % m : Nat) : Int) + (m : Int) * (-((f / m : Nat) : Int) - 1) := by
        rw [Int.ofNat_sub (by omega), Int.mul_sub, Int.mul_one, Int.mul_neg]
        omega
      rw [e2, Int.add_mul_emod_self_left, Int.emod_eq_of_lt (by omega) (by omega)]
end
end Go.Proofs.Ytbkblijoimmdeaa
