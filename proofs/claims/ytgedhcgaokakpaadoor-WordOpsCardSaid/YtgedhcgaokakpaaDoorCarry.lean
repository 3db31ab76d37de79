import Derived.Test.YtgedhcgaokakpaaDoorEven
import Derived.Test.YtgedhcgaokakpaaDoorMath
import Derived.Laws.BitsAllLaws
/- A sum, carried bit by bit. -/
namespace Go.Proofs.YtgedhcgaokakpaaDoor
open Go.RowKit
theorem xor_split (a b : Nat) : a ^^^ b = 2 * (a / 2 ^^^ b / 2) + (a + b) % 2 := by
  have h1 : (a ^^^ b) / 2 = a / 2 ^^^ b / 2 := Nat.xor_div_two
  have h2 : (a ^^^ b) % 2 = (a + b) % 2 := by
    have h3 : (a ^^^ b) % 2 = a % 2 ^^^ b % 2 := by
      have := Nat.xor_mod_two_pow (a := a) (b := b) (n := 1)
      simpa using this
    rw [h3]
    rcases Nat.mod_two_eq_zero_or_one a with h | h <;> rcases Nat.mod_two_eq_zero_or_one b with g | g <;> rw [h, g] <;> simp <;> omega
  omega
theorem and_mod2 (a b : Nat) : (a % 2 &&& b % 2) = a % 2 * (b % 2) := by
  rcases Nat.mod_two_eq_zero_or_one a with h | h <;> rcases Nat.mod_two_eq_zero_or_one b with g | g <;> rw [h, g] <;> rfl
theorem add_bits (n : Nat) : ∀ a b : Nat, a ≤ n → a + b = (a ^^^ b) + 2 * (a &&& b) := by
  induction n with
  | zero =>
    intro a b h
    have : a = 0 := by omega
    subst this
    simp
  | succ n ih =>
    intro a b h
    rw [xor_split a b, and_split a b, and_mod2]
    have := ih (a / 2) (b / 2) (by omega)
    rcases Nat.mod_two_eq_zero_or_one a with h | h <;> rcases Nat.mod_two_eq_zero_or_one b with g | g <;> rw [h, g] <;> omega
theorem evF_ge (f m j : Nat) (h0 : 0 < m) (h : m < 2 ^ f) (hd : 2 ^ j ∣ m) : 2 ^ j ≤ evF f m := by
  induction f generalizing m j with
  | zero => simp at h; omega
  | succ f ih =>
    cases j with
    | zero =>
      obtain ⟨p, _⟩ := evF_le (f + 1) m h0 h
      rw [Nat.pow_zero]
      exact p
    | succ j =>
      obtain ⟨q, hq⟩ := hd
      rw [Nat.pow_succ] at hq h
      have he : m = 2 * (2 ^ j * q) := by rw [hq, Nat.mul_comm (2 ^ j) 2, Nat.mul_assoc]
      have h2 : m / 2 = 2 ^ j * q := by omega
      unfold evF
      rw [if_neg (by omega), Nat.pow_succ, Nat.mul_comm]
      exact Nat.mul_le_mul_left 2 (ih (m / 2) j (by omega) (by omega) ⟨q, h2⟩)
/-- What goes down: the carry's lowest bit goes up. -/
def mu (y : Nat) : Nat := if y = 0 then 0 else 18446744073709551617 - evF 64 y
theorem mu_down (x y : Nat) (hy : y < 18446744073709551616) (h0 : ¬ y = 0) : mu (2 * (x &&& y) % 18446744073709551616) < mu y := by
  obtain ⟨p1, p2⟩ := evF_le 64 y (by omega) hy
  unfold mu
  rw [if_neg h0]
  split
  · omega
  · rename_i hz
    obtain ⟨k, hk⟩ := evF_pow 64 y
    obtain ⟨q, hq, _⟩ := evF_div 64 y (by omega) hy
    have hd : (x &&& y) % 2 ^ k = 0 := by
      rw [Nat.and_mod_two_pow]
      have : y % 2 ^ k = 0 := by rw [← hk]; conv => lhs; lhs; rw [hq]
                                 exact Nat.mul_mod_right _ _
      rw [this, Nat.and_zero]
    obtain ⟨c, hc⟩ := Nat.dvd_of_mod_eq_zero hd
    have hk64 : k < 64 := by
      apply Nat.lt_of_not_le
      intro hle
      have : 2 ^ 64 ≤ 2 ^ k := Nat.pow_le_pow_right (by omega) hle
      omega
    have hdv : 2 ^ (k + 1) ∣ 2 * (x &&& y) % 18446744073709551616 := by
      refine (Nat.dvd_mod_iff ?_).2 ?_
      · exact Nat.pow_dvd_pow 2 (show k + 1 ≤ 64 by omega)
      · exact ⟨c, by rw [hc, Nat.pow_succ, Nat.mul_comm (2 ^ k) 2, Nat.mul_assoc]⟩
    have := evF_ge 64 _ (k + 1) (by omega) (Nat.mod_lt _ (by omega)) hdv
    rw [Nat.pow_succ, ← hk] at this
    generalize evF 64 (2 * (x &&& y) % 18446744073709551616) = z at *
    generalize evF 64 y = d at *
    omega
theorem shl1 (c : Int) (h0 : 0 ≤ c) (h1 : c < 18446744073709551616) : IntKind.u64.wrap (c * 2) = ((2 * c.toNat % 18446744073709551616 : Nat) : Int) := by
  rw [u64w]; omega
/-- One round. -/
theorem radd_step (x y : Nat) (hx : x < 18446744073709551616) (hy : y < 18446744073709551616) : ((x ^^^ y) + 2 * (x &&& y) % 18446744073709551616) % 18446744073709551616 = (x + y) % 18446744073709551616 ∧ x ^^^ y < 18446744073709551616 := by
  have := add_bits x x y (Nat.le_refl _)
  refine ⟨by omega, ?_⟩
  exact Nat.xor_lt_two_pow (n := 64) hx hy
end Go.Proofs.YtgedhcgaokakpaaDoor
