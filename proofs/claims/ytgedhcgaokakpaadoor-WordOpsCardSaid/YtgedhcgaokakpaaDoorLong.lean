import Derived.Test.YtgedhcgaokakpaaDoorRef
/- The document's long division. -/
namespace Go.Proofs.YtgedhcgaokakpaaDoor
open Go.RowKit
/-- Bit i of x. -/
def bitAt (x i : Nat) : Nat := x / 2 ^ i % 2
theorem bitAt_lt (x i : Nat) : bitAt x i < 2 := Nat.mod_lt _ (by omega)
theorem bit_eq (x i : Nat) : ((x : Int) / 2 ^ i).tmod 2 = (bitAt x i : Int) := by
  have e : (x : Int) / 2 ^ i = ((x / 2 ^ i : Nat) : Int) := by rw [Int.natCast_ediv, Int.natCast_pow]; rfl
  rw [e, Int.tmod_eq_emod_of_nonneg (Int.natCast_nonneg _)]
  unfold bitAt
  omega
theorem half_step (x i : Nat) : x / 2 ^ i = 2 * (x / 2 ^ (i + 1)) + bitAt x i := by
  unfold bitAt
  rw [Nat.pow_succ, ← Nat.div_div_eq_div_mul]
  omega
theorem or_bit (R b : Nat) (hb : b < 2) : bits .or .u64 (IntKind.u64.wrap ((R : Int) * 2)) (b : Int) = ((2 * R % 18446744073709551616 + b : Nat) : Int) := by
  have e : IntKind.u64.wrap ((R : Int) * 2) = ((2 * R % 18446744073709551616 : Nat) : Int) := by rw [u64w]; omega
  rw [e, bits_or_u64_nat _ _ (Nat.mod_lt _ (by omega)) (by omega)]
  have e2 : 2 * R % 18446744073709551616 = 2 ^ 1 * (R % 9223372036854775808) := by omega
  rw [e2, ← Nat.two_pow_add_eq_or_of_lt (i := 1) (by omega)]
theorem or_pow (c i : Nat) (h : c * 2 ^ (i + 1) + 2 ^ i < 18446744073709551616) : bits .or .u64 ((c * 2 ^ (i + 1) : Nat) : Int) (IntKind.u64.wrap (2 ^ i)) = ((c * 2 ^ (i + 1) + 2 ^ i : Nat) : Int) := by
  have e : IntKind.u64.wrap (2 ^ i) = ((2 ^ i : Nat) : Int) := by
    rw [u64w, show ((2 : Int) ^ i) = ((2 ^ i : Nat) : Int) by rw [Int.natCast_pow]; rfl]
    generalize 2 ^ i = P at *
    generalize c * 2 ^ (i + 1) = q at *
    omega
  rw [e, bits_or_u64_nat _ _ (Nat.lt_of_le_of_lt (Nat.le_add_right _ _) h) (Nat.lt_of_le_of_lt (Nat.le_add_left _ _) h)]
  have hp : 2 ^ i < 2 ^ (i + 1) := Nat.pow_lt_pow_right (by omega) (by omega)
  rw [Nat.mul_comm c, ← Nat.two_pow_add_eq_or_of_lt hp]
/-- One bit of a long division. -/
theorem div_bit (X b y : Nat) (hb : b < 2) (hy : 0 < y) : (y ≤ 2 * (X % y) + b → (2 * X + b) / y = 2 * (X / y) + 1 ∧ (2 * X + b) % y = 2 * (X % y) + b - y) ∧ (2 * (X % y) + b < y → (2 * X + b) / y = 2 * (X / y) ∧ (2 * X + b) % y = 2 * (X % y) + b) := by
  have h1 := Nat.div_add_mod X y
  have h2 := Nat.mod_lt X hy
  generalize X / y = q at *
  generalize X % y = r at *
  constructor
  · intro h
    have e : 2 * X + b = (2 * r + b - y) + y * (2 * q + 1) := by
      rw [Nat.mul_add, ← Nat.mul_assoc, Nat.mul_comm y 2, Nat.mul_assoc]; omega
    rw [e, Nat.add_mul_div_left _ _ hy, Nat.add_mul_mod_self_left, Nat.div_eq_of_lt (by omega), Nat.mod_eq_of_lt (by omega)]
    exact ⟨by omega, rfl⟩
  · intro h
    have e : 2 * X + b = (2 * r + b) + y * (2 * q) := by
      rw [← Nat.mul_assoc, Nat.mul_comm y 2, Nat.mul_assoc]; omega
    rw [e, Nat.add_mul_div_left _ _ hy, Nat.add_mul_mod_self_left, Nat.div_eq_of_lt (by omega), Nat.mod_eq_of_lt (by omega)]
    exact ⟨by omega, rfl⟩
theorem pow_next (q i : Nat) : (2 * q) * 2 ^ i = q * 2 ^ (i + 1) ∧ (2 * q + 1) * 2 ^ i = q * 2 ^ (i + 1) + 2 ^ i := by
  have e : (2 * q) * 2 ^ i = q * 2 ^ (i + 1) := by rw [Nat.pow_succ, Nat.mul_comm 2 q, Nat.mul_assoc, Nat.mul_comm 2]
  exact ⟨e, by rw [Nat.add_mul, e, Nat.one_mul]⟩
def LongInv (x y k Q R : Nat) : Prop := Q = x / 2 ^ k / y * 2 ^ k ∧ R = x / 2 ^ k % y
theorem long_yes {x y i Q R : Nat} (hx : x < 18446744073709551616) (hy : y < 18446744073709551616) (h0 : 0 < y) (hi : i + 1 ≤ 64) (h : LongInv x y (i + 1) Q R) (hge : y ≤ 2 * R + bitAt x i) :
    (∃ k Q1 R1 : Nat, k ≤ 64 ∧ Value.int .i64 ((i : Int) - 1) = .int .i64 ((k : Int) - 1) ∧ Value.int .u64 (bits .or .u64 (Q : Int) (IntKind.u64.wrap (2 ^ i))) = .int .u64 Q1 ∧
      Value.int .u64 (IntKind.u64.wrap (bits .or .u64 (IntKind.u64.wrap ((R : Int) * 2)) (((x : Int) / 2 ^ i).tmod 2) - (y : Int))) = .int .u64 R1 ∧ R1 < y ∧ Hid (LongInv x y k Q1 R1)) ∧
    (intOf (Value.int .i64 ((i : Int) - 1)) + 1).toNat < (intOf (Value.int .i64 (((i + 1 : Nat) : Int) - 1)) + 1).toNat := by
  obtain ⟨hQ, hR⟩ := h
  have hb := bitAt_lt x i
  have hs := half_step x i
  obtain ⟨d1, d2⟩ := (div_bit (x / 2 ^ (i + 1)) (bitAt x i) y hb h0).1 (by rw [← hR]; exact hge)
  rw [← hs] at d1 d2
  rw [← hR] at d2
  have hRy : R < y := by rw [hR]; exact Nat.mod_lt _ h0
  have hle : x / 2 ^ i / y * 2 ^ i ≤ x := by
    refine Nat.le_trans (Nat.mul_le_mul_right _ (Nat.div_le_self _ _)) (Nat.div_mul_le_self _ _)
  rw [d1, (pow_next _ i).2, ← hQ] at hle
  refine ⟨⟨i, Q + 2 ^ i, 2 * R + bitAt x i - y, by omega, rfl, ?_, ?_, by omega, ?_, ?_⟩, ?_⟩
  · rw [hQ] at hle ⊢
    rw [or_pow _ i (by omega)]
  · rw [bit_eq, or_bit R _ hb, u64w]
    congr 1
    generalize bitAt x i = b at *
    omega
  · rw [d1, (pow_next _ i).2, ← hQ]
  · exact d2.symm
  · simp only [intOf]; omega
theorem long_no {x y i Q R : Nat} (h0 : 0 < y) (hi : i + 1 ≤ 64) (h : LongInv x y (i + 1) Q R) (hlt : 2 * R + bitAt x i < y) (hy : y < 18446744073709551616) :
    (∃ k Q1 R1 : Nat, k ≤ 64 ∧ Value.int .i64 ((i : Int) - 1) = .int .i64 ((k : Int) - 1) ∧ Value.int .u64 (Q : Int) = .int .u64 Q1 ∧
      Value.int .u64 (bits .or .u64 (IntKind.u64.wrap ((R : Int) * 2)) (((x : Int) / 2 ^ i).tmod 2)) = .int .u64 R1 ∧ R1 < y ∧ Hid (LongInv x y k Q1 R1)) ∧
    (intOf (Value.int .i64 ((i : Int) - 1)) + 1).toNat < (intOf (Value.int .i64 (((i + 1 : Nat) : Int) - 1)) + 1).toNat := by
  obtain ⟨hQ, hR⟩ := h
  have hb := bitAt_lt x i
  have hs := half_step x i
  obtain ⟨d1, d2⟩ := (div_bit (x / 2 ^ (i + 1)) (bitAt x i) y hb h0).2 (by rw [← hR]; exact hlt)
  rw [← hs] at d1 d2
  rw [← hR] at d2
  refine ⟨⟨i, Q, 2 * R + bitAt x i, by omega, rfl, rfl, ?_, by omega, ?_, ?_⟩, ?_⟩
  · rw [bit_eq, or_bit R _ hb]
    congr 1
    generalize bitAt x i = b at *
    omega
  · rw [d1, (pow_next _ i).1, ← hQ]
  · exact d2.symm
  · simp only [intOf]; omega
theorem or_small {x i R : Nat} (h : R < 9223372036854775808) : bits .or .u64 (IntKind.u64.wrap ((R : Int) * 2)) (((x : Int) / 2 ^ i).tmod 2) = ((2 * R + bitAt x i : Nat) : Int) := by
  rw [bit_eq, or_bit R _ (bitAt_lt x i)]
  congr 2
  omega
set_option maxRecDepth 100000 in
set_option maxHeartbeats 400000 in
theorem long_any (x y : Nat) (hx : x < 18446744073709551616) (hy : y < 18446744073709551616) (h0 : 0 < y) (w : World) :
    Calls Tryd.prog 45 #[.int .u64 x, .int .u64 y] w fun e w' => e = .returned (.tuple #[.int .u64 ((x / y : Nat) : Int), .int .u64 ((x % y : Nat) : Int)]) ∧ w' = w := by
  go_enter Tryd.func45, Tryd.ntmps45
  go_wp2
  go_loop [6, 7, 8, 9] (fun q r i _ => ∃ (k Q R : Nat), k ≤ 64 ∧ i = .int .i64 ((k : Int) - 1) ∧ q = .int .u64 Q ∧ r = .int .u64 R ∧ R < y ∧ Hid (LongInv x y k Q R)) (fun _ _ i _ => (intOf i + 1).toNat)
  case atStart =>
    refine ⟨64, 0, 0, by omega, rfl, rfl, rfl, h0, ?_, ?_⟩
    · rw [Nat.div_eq_of_lt (show x < 2 ^ 64 from hx), Nat.zero_div, Nat.zero_mul]
    · rw [Nat.div_eq_of_lt (show x < 2 ^ 64 from hx), Nat.zero_mod]
  case round =>
    obtain ⟨k, Q, R, hk, rfl, rfl, rfl, hR, hinv⟩ := hrel
    by_cases hk0 : 0 < k
    · obtain ⟨i, rfl⟩ : ∃ i, k = i + 1 := ⟨k - 1, by omega⟩
      by_cases hov : 9223372036854775808 ≤ (R : Int)
      · have H : Hid _ := long_yes hx hy h0 hk hinv.out (by omega)
        clear hinv
        go_wp2
        exact H
      · have E : IntKind.u64.wrap ((R : Int) * 2) = (R : Int) * 2 := by rw [u64w]; omega
        by_cases hge : y ≤ 2 * R + bitAt x i
        · have H : Hid _ := long_yes hx hy h0 hk hinv.out hge
          have hT : (y : Int) ≤ bits .or .u64 (IntKind.u64.wrap ((R : Int) * 2)) (((x : Int) / 2 ^ i).tmod 2) := by rw [or_small (by omega)]; omega
          rw [E] at H hT
          clear hinv hge E
          go_wp2
          exact H
        · have H : Hid _ := long_no h0 hk hinv.out (by omega) hy
          have hT : bits .or .u64 (IntKind.u64.wrap ((R : Int) * 2)) (((x : Int) / 2 ^ i).tmod 2) < (y : Int) := by rw [or_small (by omega)]; omega
          rw [E] at H hT
          clear hinv hge E
          go_wp2
          exact H
    · have hk1 : k = 0 := by omega
      subst hk1
      have H : Hid (x / y = Q ∧ x % y = R) := by
        have := hinv.out
        unfold LongInv at this
        rw [Nat.pow_zero, Nat.div_one, Nat.mul_one] at this
        exact ⟨this.1.symm, this.2.symm⟩
      go_wp2
      go_ret2
      exact ⟨ret2 (by rw [← Int.natCast_ediv, H.out.1]) (by rw [← Int.natCast_emod, H.out.2]), rfl⟩
end Go.Proofs.YtgedhcgaokakpaaDoor
