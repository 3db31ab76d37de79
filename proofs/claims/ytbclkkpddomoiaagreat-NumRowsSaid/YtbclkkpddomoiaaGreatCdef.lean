import Derived.Test.YtbclkkpddomoiaaGreatCmath
set_option linter.unusedVariables false
set_option linter.unusedSimpArgs false
/- The document's classes, as functions of numbers: plain mathematics. -/
namespace Go.Proofs.YtbclkkpddomoiaaGreat
open Go.RowKit
def U64 (a : Nat) : Prop := a < 18446744073709551616
/-- A whole number by its distance and its side. -/
def sval (f : Nat) (s : Bool) : Int := if s = true then -(f : Int) else f
def rF (M R : Nat) : Nat := if M = 0 then (wrap64 (R : Int)).natAbs else R % M
def rS (M R : Nat) : Bool := if M = 0 then decide (wrap64 (R : Int) < 0) else false
/-- r(c). -/
def rI (M R : Nat) : Int := if M = 0 then wrap64 (R : Int) else ((R % M : Nat) : Int)
theorem r_val (M R : Nat) : sval (rF M R) (rS M R) = rI M R := by
  unfold sval rF rS rI
  by_cases h : M = 0
  · rw [if_pos h, if_pos h, if_pos h]
    by_cases c : wrap64 (R : Int) < 0
    · rw [decide_eq_true c, if_pos rfl]; omega
    · rw [decide_eq_false c, if_neg (by simp)]; omega
  · rw [if_neg h, if_neg h, if_neg h, if_neg (by simp)]
theorem rF_rng {M R : Nat} (hM : U64 M) (hR : U64 R) : rF M R < 18446744073709551616 := by
  unfold rF; unfold U64 at *
  by_cases h : M = 0
  · rw [if_pos h]; have := wrap64_in (R : Int); unfold In64 at this; omega
  · rw [if_neg h]; have := Nat.mod_le R M; omega
/-- x mod m. -/
def restN (f : Nat) (s : Bool) (m : Nat) : Nat := if s = true ∧ f % m ≠ 0 then m - f % m else f % m
theorem restN_lt {f : Nat} {s : Bool} {m : Nat} (hm : 0 < m) : restN f s m < m := by
  unfold restN; have := Nat.mod_lt f hm; split <;> omega
theorem restN_val {f : Nat} {s : Bool} {m : Nat} (hm : 0 < m) : (restN f s m : Int) = sval f s % (m : Int) := by
  have hl := Nat.mod_lt f hm
  have e : (f : Int) = (m : Int) * ((f / m : Nat) : Int) + ((f % m : Nat) : Int) := by
    have := (Nat.div_add_mod f m).symm
    exact_mod_cast this
  unfold restN sval
  cases s with
  | false => simp
  | true =>
    simp only [if_true, true_and]
    by_cases h0 : f % m = 0
    · rw [if_neg (by simp [h0]), h0]
      rw [h0] at e
      have e2 : -(f : Int) = (m : Int) * (-((f / m : Nat) : Int)) := by rw [e]; simp [Int.mul_neg]
      rw [e2, Int.mul_emod_right]; rfl
    · rw [if_pos h0]
      have e2 : -(f : Int) = ((m - f % m : Nat) : Int) + (m : Int) * (-((f / m : Nat) : Int) - 1) := by
        rw [Int.ofNat_sub (by omega), Int.mul_sub, Int.mul_one, Int.mul_neg]
        omega
      rw [e2, Int.add_mul_emod_self_left, Int.emod_eq_of_lt (by omega) (by omega)]
end Go.Proofs.YtbclkkpddomoiaaGreat
