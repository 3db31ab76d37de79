import Derived.Test.YtgedhcgaokakpaaDoorRMul
namespace Go.Proofs.YtgedhcgaokakpaaDoor
open Go.RowKit
theorem u64_id {n : Int} (h0 : 0 ≤ n) (h1 : n ≤ 18446744073709551615) : IntKind.u64.wrap n = n := by rw [u64w]; omega
theorem half_prod {a b : Int} (ha : 0 ≤ a ∧ a < 4294967296) (hb : 0 ≤ b ∧ b < 4294967296) : 0 ≤ a * b ∧ a * b ≤ 18446744065119617025 := by
  refine ⟨Int.mul_nonneg ha.1 hb.1, ?_⟩
  have := Int.mul_le_mul (show a ≤ 4294967295 by omega) (show b ≤ 4294967295 by omega) hb.1 (by omega)
  omega
theorem prod_parts (a b c d : Int) : (a * 4294967296 + b) * (c * 4294967296 + d) = (a * c) * 18446744073709551616 + (a * d + b * c) * 4294967296 + b * d := by
  rw [Int.add_mul, Int.mul_add, Int.mul_add]
  have e1 : a * 4294967296 * (c * 4294967296) = (a * c) * (4294967296 * 4294967296) := by ac_rfl
  have e2 : a * 4294967296 * d = (a * d) * 4294967296 := by ac_rfl
  have e3 : b * (c * 4294967296) = (b * c) * 4294967296 := by ac_rfl
  rw [e1, e2, e3]
  generalize a * c = p1
  generalize a * d = p2
  generalize b * c = p3
  generalize b * d = p4
  omega
theorem full_eq (x y : Int) (hx : 0 ≤ x ∧ x ≤ 18446744073709551615) (hy : 0 ≤ y ∧ y ≤ 18446744073709551615) :
    IntKind.u64.wrap (IntKind.u64.wrap (IntKind.u64.wrap (x / 4294967296 * (y / 4294967296)) + IntKind.u64.wrap ((IntKind.u64.wrap (IntKind.u64.wrap (x / 4294967296 * (y % 4294967296)) + IntKind.u64.wrap ((IntKind.u64.wrap (x % 4294967296 * (y % 4294967296))).tdiv 4294967296))).tdiv 4294967296)) + IntKind.u64.wrap ((IntKind.u64.wrap (IntKind.u64.wrap (x % 4294967296 * (y / 4294967296)) + (IntKind.u64.wrap (IntKind.u64.wrap (x / 4294967296 * (y % 4294967296)) + IntKind.u64.wrap ((IntKind.u64.wrap (x % 4294967296 * (y % 4294967296))).tdiv 4294967296))).tmod 4294967296)).tdiv 4294967296)) = hi64 (x * y) ∧
    IntKind.u64.wrap (IntKind.u64.wrap ((IntKind.u64.wrap (IntKind.u64.wrap (x % 4294967296 * (y / 4294967296)) + (IntKind.u64.wrap (IntKind.u64.wrap (x / 4294967296 * (y % 4294967296)) + IntKind.u64.wrap ((IntKind.u64.wrap (x % 4294967296 * (y % 4294967296))).tdiv 4294967296))).tmod 4294967296)).tmod 4294967296 * 4294967296) + (IntKind.u64.wrap (x % 4294967296 * (y % 4294967296))).tmod 4294967296) = lo64 (x * y) := by
  have ea : x = x / 4294967296 * 4294967296 + x % 4294967296 := by omega
  have ey : y = y / 4294967296 * 4294967296 + y % 4294967296 := by omega
  have ha : 0 ≤ x / 4294967296 ∧ x / 4294967296 < 4294967296 := by omega
  have hb : 0 ≤ x % 4294967296 ∧ x % 4294967296 < 4294967296 := by omega
  have hc : 0 ≤ y / 4294967296 ∧ y / 4294967296 < 4294967296 := by omega
  have hd : 0 ≤ y % 4294967296 ∧ y % 4294967296 < 4294967296 := by omega
  have hp := prod_parts (x / 4294967296) (x % 4294967296) (y / 4294967296) (y % 4294967296)
  rw [← ea, ← ey] at hp
  rw [hp]
  clear hp ea ey
  generalize x / 4294967296 = a at *
  generalize x % 4294967296 = b at *
  generalize y / 4294967296 = c at *
  generalize y % 4294967296 = d at *
  have h1 := half_prod ha hc
  have h2 := half_prod ha hd
  have h3 := half_prod hb hc
  have h4 := half_prod hb hd
  generalize a * c = p1 at *
  generalize a * d = p2 at *
  generalize b * c = p3 at *
  generalize b * d = p4 at *
  rw [u64_id h1.1 (by omega), u64_id h2.1 (by omega), u64_id h3.1 (by omega), u64_id h4.1 (by omega)]
  rw [Int.tdiv_eq_ediv_of_nonneg h4.1, Int.tmod_eq_emod_of_nonneg h4.1]
  rw [u64_id (n := p4 / 4294967296) (by omega) (by omega)]
  obtain ⟨mid, hmid⟩ : ∃ mid, p2 + p4 / 4294967296 = mid := ⟨_, rfl⟩
  rw [hmid, u64_id (n := mid) (by omega) (by omega)]
  rw [Int.tdiv_eq_ediv_of_nonneg (a := mid) (by omega), Int.tmod_eq_emod_of_nonneg (a := mid) (by omega)]
  rw [u64_id (n := mid / 4294967296) (by omega) (by omega)]
  obtain ⟨more, hmore⟩ : ∃ more, p3 + mid % 4294967296 = more := ⟨_, rfl⟩
  rw [hmore, u64_id (n := more) (by omega) (by omega)]
  rw [Int.tdiv_eq_ediv_of_nonneg (a := more) (by omega), Int.tmod_eq_emod_of_nonneg (a := more) (by omega)]
  rw [u64_id (n := more / 4294967296) (by omega) (by omega)]
  rw [u64_id (n := p1 + mid / 4294967296) (by omega) (by omega)]
  rw [u64_id (n := more % 4294967296 * 4294967296) (by omega) (by omega)]
  rw [u64_id (n := more % 4294967296 * 4294967296 + p4 % 4294967296) (by omega) (by omega)]
  unfold hi64 lo64
  rw [u64w]
  omega
/-- The exact product of numbers with signs, from that of the absolute values. -/
theorem abs_prod (a b : Int) : ((decide (a < 0) == decide (b < 0)) = true → (a.natAbs : Int) * (b.natAbs : Int) = a * b) ∧ ((decide (a < 0) == decide (b < 0)) = false → (a.natAbs : Int) * (b.natAbs : Int) = -(a * b)) := by
  rcases abs_form a with ⟨ha, ea⟩ | ⟨ha, ea⟩ <;> rcases abs_form b with ⟨hb, eb⟩ | ⟨hb, eb⟩
  · rw [decide_eq_true ha, decide_eq_true hb]
    refine ⟨fun _ => ?_, fun h => absurd h (by decide)⟩
    conv => rhs; rw [ea, eb, Int.neg_mul, Int.mul_neg, Int.neg_neg]
  · rw [decide_eq_true ha, decide_eq_false (show ¬ b < 0 by omega)]
    refine ⟨fun h => absurd h (by decide), fun _ => ?_⟩
    conv => rhs; rw [ea, eb, Int.neg_mul, Int.neg_neg]
  · rw [decide_eq_false (show ¬ a < 0 by omega), decide_eq_true hb]
    refine ⟨fun h => absurd h (by decide), fun _ => ?_⟩
    conv => rhs; rw [ea, eb, Int.mul_neg, Int.neg_neg]
  · rw [decide_eq_false (show ¬ a < 0 by omega), decide_eq_false (show ¬ b < 0 by omega)]
    refine ⟨fun _ => ?_, fun h => absurd h (by decide)⟩
    conv => rhs; rw [ea, eb]
end Go.Proofs.YtgedhcgaokakpaaDoor
