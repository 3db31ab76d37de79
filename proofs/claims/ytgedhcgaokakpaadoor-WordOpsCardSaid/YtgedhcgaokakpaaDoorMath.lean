import Derived.WalkKit
import Derived.Laws.Bits64b
/- Plain mathematics of 64 bits for the laws of layer 1 (word). -/
namespace Go.Proofs.YtgedhcgaokakpaaDoor
open Go.RowKit

def hi64 (p : Int) : Int := p / 18446744073709551616
def lo64 (p : Int) : Int := p % 18446744073709551616
def In64 (a : Int) : Prop := -9223372036854775808 ≤ a ∧ a ≤ 9223372036854775807
def Un64 (a : Int) : Prop := 0 ≤ a ∧ a ≤ 18446744073709551615

theorem u64w (n : Int) : IntKind.u64.wrap n = n % 18446744073709551616 := IntKind.wrap_u64 n
theorem wmod (n : Int) : wrap64 (n % 18446744073709551616) = wrap64 n := by unfold wrap64; omega
theorem ret1 {k : IntKind} {a b : Int} (h : a = b) : Ending.returned (.int k a) = .returned (.int k b) := by rw [h]
theorem ret2 {k j : IntKind} {a b c d : Int} (h : a = b) (g : c = d) : Ending.returned (.tuple #[.int k a, .int j c]) = .returned (.tuple #[.int k b, .int j d]) := by rw [h, g]
theorem ret2b {k : IntKind} {a b : Int} {c : Bool} (h : a = b) : Ending.returned (.tuple #[.int k a, .bool c]) = .returned (.tuple #[.int k b, .bool c]) := by rw [h]
theorem wrap64_in (n : Int) : In64 (wrap64 n) := by unfold In64 wrap64; omega
theorem wrap64_id {n : Int} (h : In64 n) : wrap64 n = n := by unfold In64 at h; unfold wrap64; omega
theorem wrap64_add_mul (n k : Int) : wrap64 (n + k * 18446744073709551616) = wrap64 n := by unfold wrap64; omega

theorem add_eq (a b : Int) : wrap64 (IntKind.u64.wrap (IntKind.u64.wrap a + IntKind.u64.wrap b)) = wrap64 (a + b) := by
  simp only [u64w]; unfold wrap64; omega
theorem sub_eq (a b : Int) : wrap64 (IntKind.u64.wrap (IntKind.u64.wrap a - IntKind.u64.wrap b)) = wrap64 (a - b) := by
  simp only [u64w]; unfold wrap64; omega
theorem neg_eq (b : Int) : wrap64 (IntKind.u64.wrap (-IntKind.u64.wrap b)) = wrap64 (-b) := by
  simp only [u64w]; unfold wrap64; omega
theorem wrap64_mul_mod (a b : Int) : wrap64 ((a % 18446744073709551616) * (b % 18446744073709551616)) = wrap64 (a * b) := by
  rw [← wmod, ← Int.mul_emod, wmod]
theorem mul_eq (a b : Int) : wrap64 (IntKind.u64.wrap (IntKind.u64.wrap a * IntKind.u64.wrap b)) = wrap64 (a * b) := by
  simp only [u64w]; rw [wmod, wrap64_mul_mod]

/-- The product of two numbers of 64 bits has at most 126 bits and a sign. -/
theorem prod_bound {a b : Int} (ha : In64 a) (hb : In64 b) : -85070591730234615865843651857942052864 ≤ a * b ∧ a * b ≤ 85070591730234615865843651857942052864 := by
  have h1 : a.natAbs ≤ 9223372036854775808 := by unfold In64 at ha; omega
  have h2 : b.natAbs ≤ 9223372036854775808 := by unfold In64 at hb; omega
  have h3 := Nat.mul_le_mul h1 h2
  rw [← Int.natAbs_mul] at h3
  generalize a * b = p at *
  omega
theorem hi64_in {a b : Int} (ha : In64 a) (hb : In64 b) : In64 (hi64 (a * b)) := by
  have := prod_bound ha hb
  unfold In64 hi64
  generalize a * b = p at *
  omega
theorem lo64_in (p : Int) : Un64 (lo64 p) := by unfold Un64 lo64; omega

/-- The upper half, from the unsigned product's. -/
theorem wide_pp {a b : Int} (ha : In64 a) (hb : In64 b) (h0 : 0 ≤ a) (h1 : 0 ≤ b) : wrap64 (hi64 (IntKind.u64.wrap a * IntKind.u64.wrap b)) = hi64 (a * b) ∧ lo64 (IntKind.u64.wrap a * IntKind.u64.wrap b) = lo64 (a * b) := by
  have e1 : IntKind.u64.wrap a = a := by rw [u64w]; unfold In64 at ha; omega
  have e2 : IntKind.u64.wrap b = b := by rw [u64w]; unfold In64 at hb; omega
  rw [e1, e2]
  exact ⟨wrap64_id (hi64_in ha hb), rfl⟩
theorem wide_np {a b : Int} (ha : In64 a) (hb : In64 b) (h0 : a < 0) (h1 : 0 ≤ b) : wrap64 (IntKind.u64.wrap (hi64 (IntKind.u64.wrap a * IntKind.u64.wrap b) - IntKind.u64.wrap b)) = hi64 (a * b) ∧ lo64 (IntKind.u64.wrap a * IntKind.u64.wrap b) = lo64 (a * b) := by
  have hh := hi64_in ha hb
  have e1 : IntKind.u64.wrap a = a + 18446744073709551616 := by rw [u64w]; unfold In64 at ha; omega
  have e2 : IntKind.u64.wrap b = b := by rw [u64w]; unfold In64 at hb; omega
  rw [e1, e2, Int.add_mul, u64w]
  unfold hi64 lo64 In64 at *
  generalize a * b = p at *
  unfold wrap64
  omega
theorem wide_pn {a b : Int} (ha : In64 a) (hb : In64 b) (h0 : 0 ≤ a) (h1 : b < 0) : wrap64 (IntKind.u64.wrap (hi64 (IntKind.u64.wrap a * IntKind.u64.wrap b) - IntKind.u64.wrap a)) = hi64 (a * b) ∧ lo64 (IntKind.u64.wrap a * IntKind.u64.wrap b) = lo64 (a * b) := by
  have h := wide_np hb ha h1 h0
  rw [Int.mul_comm b a, Int.mul_comm (IntKind.u64.wrap b)] at h
  exact h
theorem wide_nn {a b : Int} (ha : In64 a) (hb : In64 b) (h0 : a < 0) (h1 : b < 0) : wrap64 (IntKind.u64.wrap (IntKind.u64.wrap (hi64 (IntKind.u64.wrap a * IntKind.u64.wrap b) - IntKind.u64.wrap b) - IntKind.u64.wrap a)) = hi64 (a * b) ∧ lo64 (IntKind.u64.wrap a * IntKind.u64.wrap b) = lo64 (a * b) := by
  have hh := hi64_in ha hb
  have e1 : IntKind.u64.wrap a = a + 18446744073709551616 := by rw [u64w]; unfold In64 at ha; omega
  have e2 : IntKind.u64.wrap b = b + 18446744073709551616 := by rw [u64w]; unfold In64 at hb; omega
  rw [e1, e2, Int.add_mul, Int.mul_add, u64w, u64w]
  unfold hi64 lo64 In64 at *
  generalize a * b = p at *
  unfold wrap64
  omega

/-! WordWhole -/
theorem ww1 {a : Int} (ha : In64 a) (b : Int) : wrap64 (wrap64 (a + b) - b) = a := by unfold In64 at ha; unfold wrap64; omega
theorem ww2 (a : Int) : wrap64 (a + wrap64 (-a)) = 0 := by unfold wrap64; omega
theorem ww3 (a b : Int) : wrap64 (a - b) = wrap64 (a + wrap64 (-b)) := by unfold wrap64; omega
theorem wrap64_ex (n : Int) : ∃ k : Int, wrap64 n = n + k * 18446744073709551616 := ⟨-((n + 9223372036854775808) / 18446744073709551616), by unfold wrap64; omega⟩
theorem ww4 (a b c : Int) : wrap64 (a * wrap64 (b + c)) = wrap64 (wrap64 (a * b) + wrap64 (a * c)) := by
  obtain ⟨k, hk⟩ := wrap64_ex (b + c)
  rw [hk, Int.mul_add, Int.mul_add, ← Int.mul_assoc, wrap64_add_mul]
  generalize a * b = p; generalize a * c = q
  unfold wrap64; omega
theorem ww5 {a : Int} (ha : In64 a) : wrap64 (a * 1) = a := by rw [Int.mul_one]; exact wrap64_id ha
theorem ww6 (p : Int) : lo64 p = IntKind.u64.wrap (wrap64 p) := by rw [u64w]; unfold lo64 wrap64; omega
theorem tdm (a b : Int) : b * a.tdiv b + a.tmod b = a := Int.mul_tdiv_add_tmod a b
theorem tdiv_abs (a b : Int) : (a.tdiv b).natAbs = a.natAbs / b.natAbs := Int.natAbs_tdiv a b
theorem tmod_abs (a b : Int) : (a.tmod b).natAbs = a.natAbs % b.natAbs := Int.natAbs_tmod a b
theorem tmod_sign (a b : Int) : (0 ≤ a → 0 ≤ a.tmod b) ∧ (a ≤ 0 → a.tmod b ≤ 0) :=
  ⟨fun h => Int.tmod_nonneg b h, fun h => by
    have := Int.tmod_nonneg b (show 0 ≤ -a by omega)
    rw [Int.neg_tmod] at this
    omega⟩
theorem tdiv2_in {b : Int} (hb : In64 b) : In64 (b.tdiv 2) ∧ In64 (b - b.tdiv 2) := by
  have h1 := tdm b 2
  have h2 : (b.tmod 2).natAbs = b.natAbs % 2 := tmod_abs b 2
  have h3 := tmod_sign b 2
  unfold In64 at *
  omega
theorem ww7 (a : Int) {b : Int} (hb : In64 b) : wrap64 (b.tdiv 2) = b.tdiv 2 ∧ wrap64 (b - b.tdiv 2) = b - b.tdiv 2 ∧ a * b.tdiv 2 + a * (b - b.tdiv 2) = a * b := by
  have h := tdiv2_in hb
  refine ⟨wrap64_id h.1, wrap64_id h.2, ?_⟩
  rw [← Int.mul_add]; congr 1; omega
def carry (lo low : Int) : Int := if IntKind.u64.wrap (lo + low) < lo then 1 else 0
/-- The sum of two exact products. -/
theorem ww8 {p q s : Int} (h : p + q = s) (hs : In64 (hi64 s)) : wrap64 (hi64 p + hi64 q + carry (lo64 p) (lo64 q)) = hi64 s ∧ IntKind.u64.wrap (lo64 p + lo64 q) = lo64 s := by
  unfold carry
  rw [u64w]
  subst h
  unfold hi64 lo64 In64 at *
  unfold wrap64
  split <;> omega
theorem ww9 {a : Int} (ha : In64 a) : wrap64 (lo64 (a * 1)) = a ∧ hi64 (a * 1) = if a < 0 then -1 else 0 := by
  rw [Int.mul_one]
  unfold In64 at ha
  unfold wrap64 lo64 hi64
  split <;> omega
/-- Quotient times divisor and what is left is the dividend. -/
theorem ww10 {a : Int} (ha : In64 a) (b : Int) : wrap64 (wrap64 (wrap64 (a.tdiv b) * b) + a.tmod b) = a := by
  obtain ⟨k, hk⟩ := wrap64_ex (a.tdiv b)
  have h := tdm a b
  rw [hk, Int.add_mul, Int.mul_comm (a.tdiv b) b, Int.mul_assoc k, Int.mul_comm 18446744073709551616 b, ← Int.mul_assoc, wrap64_add_mul]
  generalize b * a.tdiv b = p at *
  unfold In64 at ha
  unfold wrap64
  omega
theorem tmod_in {a b : Int} (ha : In64 a) : In64 (a.tmod b) := by
  have h2 := tmod_abs a b
  have h3 := tmod_sign a b
  have h4 : a.natAbs % b.natAbs ≤ a.natAbs := Nat.mod_le _ _
  unfold In64 at *
  omega
theorem ww11 {a b : Int} (ha : In64 a) (hb : In64 b) (h0 : b ≠ 0) : wrap64 (a.tmod b) = a.tmod b ∧ (a.tmod b ≠ 0 → (a.tmod b < 0 ↔ a < 0)) ∧
    (b = -9223372036854775808 ∨ (a.tmod b < 0 ∧ b < 0 ∧ b < a.tmod b) ∨ (a.tmod b < 0 ∧ 0 < b ∧ wrap64 (-b) < a.tmod b) ∨ (0 ≤ a.tmod b ∧ 0 < b ∧ a.tmod b < b) ∨ (0 ≤ a.tmod b ∧ b < 0 ∧ a.tmod b < wrap64 (-b))) ∧
    (b = -9223372036854775808 → a.tmod b ≠ -9223372036854775808) := by
  have h2 := tmod_abs a b
  have h3 := tmod_sign a b
  have h4 : a.natAbs % b.natAbs < b.natAbs := Nat.mod_lt _ (by omega)
  refine ⟨wrap64_id (tmod_in ha), by omega, ?_, by omega⟩
  unfold In64 at *
  unfold wrap64
  omega
end Go.Proofs.YtgedhcgaokakpaaDoor
