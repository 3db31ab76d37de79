import Derived.WalkKit
import Derived.Laws.Bits64b
namespace Go.Proofs.YtgedhcgaokakpaaDoor
/-- The greatest power of two that divides m, m at most 2^f - 1 and not 0. -/
def evF : Nat → Nat → Nat
  | 0, _ => 1
  | f + 1, m => if m % 2 = 1 then 1 else 2 * evF f (m / 2)
theorem evF_pow (f m : Nat) : ∃ k, evF f m = 2 ^ k := by
  induction f generalizing m with
  | zero => exact ⟨0, rfl⟩
  | succ f ih =>
    unfold evF
    split
    · exact ⟨0, rfl⟩
    · obtain ⟨k, hk⟩ := ih (m / 2)
      exact ⟨k + 1, by rw [hk, Nat.pow_succ, Nat.mul_comm]⟩
theorem evF_div (f m : Nat) (h0 : 0 < m) (h : m < 2 ^ f) : ∃ q, m = evF f m * q ∧ q % 2 = 1 := by
  induction f generalizing m with
  | zero => simp at h; omega
  | succ f ih =>
    unfold evF
    split
    · exact ⟨m, by omega, by assumption⟩
    · obtain ⟨q, hq, ho⟩ := ih (m / 2) (by omega) (by rw [Nat.pow_succ] at h; omega)
      refine ⟨q, ?_, ho⟩
      rw [Nat.mul_assoc, ← hq]
      omega
theorem and_compl (f j : Nat) (h : j < 2 ^ f) : j &&& (2 ^ f - (j + 1)) = 0 := by
  apply Nat.eq_of_testBit_eq
  intro i
  rw [Nat.testBit_and, Nat.testBit_two_pow_sub_succ h, Nat.zero_testBit]
  cases j.testBit i <;> simp
theorem and_split (a b : Nat) : a &&& b = 2 * (a / 2 &&& b / 2) + (a % 2 &&& b % 2) := by
  have h1 : (a &&& b) / 2 = a / 2 &&& b / 2 := Nat.and_div_two
  have h2 : (a &&& b) % 2 = a % 2 &&& b % 2 := by
    have := Nat.and_mod_two_pow (a := a) (b := b) (n := 1)
    simpa using this
  omega
theorem evF_and (f m : Nat) (h0 : 0 < m) (h : m < 2 ^ f) : m &&& (2 ^ f - m) = evF f m := by
  induction f generalizing m with
  | zero => simp at h; omega
  | succ f ih =>
    have hp : 2 ^ (f + 1) = 2 * 2 ^ f := by rw [Nat.pow_succ, Nat.mul_comm]
    rw [hp] at h ⊢
    generalize hP : 2 ^ f = P at *
    rw [and_split]
    unfold evF
    split
    · rename_i ho
      have e1 : (2 * P - m) / 2 = P - (m / 2 + 1) := by omega
      have e2 : (2 * P - m) % 2 = 1 := by omega
      rw [e1, e2, ho, ← hP, and_compl f (m / 2) (by omega)]
      rfl
    · have e0 : m % 2 = 0 := by omega
      have e1 : (2 * P - m) / 2 = P - m / 2 := by omega
      rw [e1, e0, ih (m / 2) (by omega) (by omega)]
      simp
theorem evF_le (f m : Nat) (h0 : 0 < m) (h : m < 2 ^ f) : 0 < evF f m ∧ evF f m ≤ m := by
  obtain ⟨q, hq, ho⟩ := evF_div f m h0 h
  obtain ⟨k, hk⟩ := evF_pow f m
  have : 0 < evF f m := by rw [hk]; exact Nat.two_pow_pos k
  refine ⟨this, ?_⟩
  have : evF f m * 1 ≤ evF f m * q := Nat.mul_le_mul_left _ (by omega)
  omega
theorem evF_facts (m : Nat) (h0 : 0 < m) (h : m < 18446744073709551616) : ∃ e : Nat, evF 64 m = e ∧ 0 < e ∧ e ≤ m ∧ bits .and .u64 (e : Int) ((e : Int) - 1) = 0 ∧ (m : Int) % (e : Int) = 0 ∧ (m : Int) / (e : Int) % 2 = 1 := by
  obtain ⟨p1, p2⟩ := evF_le 64 m h0 h
  obtain ⟨q, hq, ho⟩ := evF_div 64 m h0 h
  obtain ⟨k, hk⟩ := evF_pow 64 m
  refine ⟨_, rfl, p1, p2, ?_, ?_, ?_⟩
  · have e1 : ((evF 64 m : Int) - 1) = ((evF 64 m - 1 : Nat) : Int) := by omega
    rw [e1, bits_and_u64_nat _ _ (by omega) (by omega)]
    rw [hk, Nat.and_two_pow_sub_one_eq_mod]
    simp
  · have : m % evF 64 m = 0 := by
      conv => lhs; lhs; rw [hq]
      exact Nat.mul_mod_right _ _
    omega
  · have : m / evF 64 m = q := by
      conv => lhs; lhs; rw [hq]
      exact Nat.mul_div_cancel_left q p1
    rw [← Int.natCast_ediv, this]
    omega
theorem even_eq (m : Nat) (h0 : 0 < m) (h : m < 18446744073709551616) : bits .and .u64 (m : Int) (IntKind.u64.wrap (-(m : Int))) = (evF 64 m : Int) := by
  have e : IntKind.u64.wrap (-(m : Int)) = ((18446744073709551616 - m : Nat) : Int) := by rw [IntKind.wrap_u64]; omega
  rw [e, bits_and_u64_nat _ _ h (by omega)]
  rw [show (18446744073709551616 : Nat) = 2 ^ 64 from rfl, evF_and 64 m h0 h]
/-- Remainders that go up by one. -/
theorem mod_succ (v m : Int) (hm : 0 < m) : (v % m = m - 1 → (v + 1) % m = 0) ∧ (v % m < m - 1 → (v + 1) % m = v % m + 1) := by
  have h1 := Int.emod_nonneg v (show m ≠ 0 by omega)
  have h2 := Int.emod_add_mul_ediv v m
  generalize v % m = r at *
  generalize v / m = q at *
  constructor
  · intro hr
    have : v + 1 = 0 + m * (q + 1) := by rw [Int.mul_add]; omega
    rw [this, Int.add_mul_emod_self_left]
    rfl
  · intro hr
    have : v + 1 = (r + 1) + m * q := by omega
    rw [this, Int.add_mul_emod_self_left]
    exact Int.emod_eq_of_lt (by omega) (by omega)
end Go.Proofs.YtgedhcgaokakpaaDoor
