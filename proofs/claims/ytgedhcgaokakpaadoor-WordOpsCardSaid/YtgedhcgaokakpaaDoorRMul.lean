import Derived.Test.YtgedhcgaokakpaaDoorRDiv
/- The document's Gcd, Mod, Even, Mul. -/
namespace Go.Proofs.YtgedhcgaokakpaaDoor
open Go.RowKit
theorem rgcd_next {p q : Nat} {r : Nat} (h : Nat.gcd p q = r) (hq : q < 18446744073709551616) (h0 : ¬ q = 0) :
    (∃ p1 q1 : Nat, p1 < 18446744073709551616 ∧ q1 < 18446744073709551616 ∧ Value.int .u64 (q : Int) = .int .u64 p1 ∧ Value.int .u64 ((p : Int) % (q : Int)) = .int .u64 q1 ∧ Hid (Nat.gcd p1 q1 = r)) ∧ (intOf (Value.int .u64 ((p : Int) % (q : Int)))).toNat < (intOf (Value.int .u64 (q : Int))).toNat := by
  have hm : p % q < q := Nat.mod_lt _ (by omega)
  refine ⟨⟨q, p % q, hq, by omega, rfl, by rw [Int.natCast_emod], ?_⟩, ?_⟩
  · show Nat.gcd q (p % q) = r
    rw [← h, Nat.gcd_comm p q, Nat.gcd_rec q p, Nat.gcd_comm]
  · simp only [intOf]
    rw [← Int.natCast_emod]
    omega
set_option maxHeartbeats 400000 in
theorem rgcd_any (a b : Nat) (ha : a < 18446744073709551616) (hb : b < 18446744073709551616) (w : World) :
    Calls Tryd.prog 30 #[.int .u64 a, .int .u64 b] w fun e w' => e = .returned (.int .u64 (Nat.gcd a b)) ∧ w' = w := by
  go_enter Tryd.func30, Tryd.ntmps30
  go_wp2_with fail
  go_loop [0, 1, 5, 6] (fun x y _ _ => ∃ p q : Nat, p < 18446744073709551616 ∧ q < 18446744073709551616 ∧ x = .int .u64 p ∧ y = .int .u64 q ∧ Hid (Nat.gcd p q = Nat.gcd a b)) (fun _ y _ _ => (intOf y).toNat)
  case atStart => exact ⟨a, b, ha, hb, rfl, rfl, rfl⟩
  case round =>
    obtain ⟨p, q, hp, hq, rfl, rfl, hg⟩ := hrel
    by_cases h0 : q = 0
    · subst h0
      go_wp2_with fail
      go_ret
      exact ⟨ret1 (by rw [← hg.out, Nat.gcd_zero_right]), rfl⟩
    · have hq1 : ((q : Int) != 0) = true := by simpa using h0
      have hq2 : 0 < q := by omega
      go_wp2_with fail
      refine (long_any p q hp hq hq2 _).mono ?_
      rintro e w' ⟨rfl, rfl⟩
      go_wp2_with fail
      exact rgcd_next hg.out hq h0
theorem rmod_eq {v : Int} {m : Nat} (hm : 0 < m) (hm1 : m < 18446744073709551616) : (0 ≤ v → ((v.natAbs % m : Nat) : Int) = v % m) ∧ (v < 0 → v.natAbs % m = 0 → ((v.natAbs % m : Nat) : Int) = v % m) ∧ (v < 0 → 0 < v.natAbs % m → IntKind.u64.wrap ((m : Int) - ((v.natAbs % m : Nat) : Int)) = v % m) := by
  have hmm : (m : Int) ≠ 0 := by omega
  refine ⟨?_, ?_, ?_⟩
  · intro h
    rw [Int.natCast_emod, show ((v.natAbs : Nat) : Int) = v by omega]
  · intro h h0
    have e := neg_mod0 (n := (v.natAbs : Int)) (m := (m : Int)) (by omega) (by rw [tmod_nat, h0]; rfl)
    rw [h0, show v = -(v.natAbs : Int) by omega]
    simpa using e
  · intro h h0
    have e := neg_mod1 (n := (v.natAbs : Int)) (m := (m : Int)) (by omega) (by omega) (by omega) (by rw [tmod_nat]; rw [beq_eq_false_iff_ne]; omega)
    rw [tmod_nat] at e
    rw [e, show -(v.natAbs : Int) = v by omega]
set_option maxHeartbeats 400000 in
theorem rmod_zero (v : Int) (m : Nat) (h : m = 0) (w : World) :
    Calls Tryd.prog 32 #[.int .i64 v, .int .u64 m] w fun e w' => e = .returned (.int .u64 (IntKind.u64.wrap v)) ∧ w' = w := by
  subst h
  go_enter Tryd.func32, Tryd.ntmps32
  go_wp2_with fail
  go_ret
  exact ⟨rfl, rfl⟩
set_option maxHeartbeats 400000 in
theorem rmod_any (v : Int) (m : Nat) (hv : In64 v) (hm : 0 < m) (hm1 : m < 18446744073709551616) (w : World) :
    Calls Tryd.prog 32 #[.int .i64 v, .int .u64 m] w fun e w' => e = .returned (.int .u64 (v % (m : Int))) ∧ w' = w := by
  have km : ((m : Int) == 0) = false := by rw [beq_eq_false_iff_ne]; omega
  have E : Hid _ := rmod_eq (v := v) hm hm1
  have hrm : v.natAbs % m < m := Nat.mod_lt _ hm
  go_enter Tryd.func32, Tryd.ntmps32
  go_wp2_with fail
  refine (rabs_any v hv _).mono ?_
  rintro e w' ⟨rfl, rfl⟩
  go_wp2_with fail
  refine (long_any _ _ (abs_lt hv) hm1 hm _).mono ?_
  rintro e w' ⟨rfl, rfl⟩
  generalize v.natAbs / m = q at *
  generalize v.natAbs % m = r at *
  by_cases hc : v < 0
  · by_cases hr : 0 < r
    · have E3 : Hid _ := E.out.2.2 hc hr
      have hr1 : decide (0 < r) = true := decide_eq_true hr
      clear E
      go_wp2_with fail
      go_ret
      exact ⟨ret1 (by rw [← E3.out, u64w]; omega), rfl⟩
    · have E3 : Hid _ := E.out.2.1 hc (by omega)
      have hr1 : decide (0 < r) = false := decide_eq_false hr
      clear E
      go_wp2_with fail
      go_ret
      exact ⟨ret1 E3.out, rfl⟩
  · have E3 : Hid _ := E.out.1 (by omega)
    have hc1 : decide (v < 0) = false := decide_eq_false hc
    clear E
    go_wp2_with fail
    go_ret
    exact ⟨ret1 E3.out, rfl⟩
theorem reven_next {f M N e : Nat} (h0 : 0 < M) (h : M < 2 ^ f) (he : N * evF f M = e) (h2 : M % 2 = 0) (hlt : e < 18446744073709551616) (hM : M < 18446744073709551616) :
    (∃ f1 M1 N1 : Nat, M1 < 18446744073709551616 ∧ N1 < 18446744073709551616 ∧ Value.int .u64 ((M : Int) / 2) = .int .u64 M1 ∧ Value.int .u64 (IntKind.u64.wrap ((N : Int) * 2)) = .int .u64 N1 ∧ Hid (0 < M1 ∧ M1 < 2 ^ f1 ∧ N1 * evF f1 M1 = e)) ∧
    (intOf (Value.int .u64 ((M : Int) / 2))).toNat < (intOf (Value.int .u64 (M : Int))).toNat := by
  cases f with
  | zero => simp at h; omega
  | succ f =>
    have e1 : evF (f + 1) M = 2 * evF f (M / 2) := by
      conv => lhs; unfold evF
      rw [if_neg (by omega)]
    rw [e1, ← Nat.mul_assoc] at he
    rw [Nat.pow_succ] at h
    have hN : N * 2 < 18446744073709551616 := by
      obtain ⟨p, _⟩ := evF_le f (M / 2) (by omega) (by omega)
      have : N * 2 * 1 ≤ N * 2 * evF f (M / 2) := Nat.mul_le_mul_left _ p
      omega
    refine ⟨⟨f, M / 2, N * 2, by omega, hN, by rw [Int.natCast_ediv]; rfl, ?_, by omega, by omega, he⟩, ?_⟩
    · rw [u64w]
      congr 1
      omega
    · simp only [intOf]; omega
set_option maxHeartbeats 400000 in
theorem reven_zero (m : Nat) (h : m = 0) (w : World) :
    Calls Tryd.prog 31 #[.int .u64 m] w fun e w' => e = .returned (.int .u64 0) ∧ w' = w := by
  subst h
  go_enter Tryd.func31, Tryd.ntmps31
  go_wp2_with fail
  go_ret
  exact ⟨rfl, rfl⟩
set_option maxHeartbeats 400000 in
theorem reven_any (m : Nat) (h0 : 0 < m) (h : m < 18446744073709551616) (w : World) :
    Calls Tryd.prog 31 #[.int .u64 m] w fun e w' => e = .returned (.int .u64 (evF 64 m)) ∧ w' = w := by
  have km : ((m : Int) == 0) = false := by rw [beq_eq_false_iff_ne]; omega
  go_enter Tryd.func31, Tryd.ntmps31
  go_wp2_with fail
  go_loop [0, 3] (fun x y => ∃ f M N : Nat, M < 18446744073709551616 ∧ N < 18446744073709551616 ∧ x = .int .u64 M ∧ y = .int .u64 N ∧ Hid (0 < M ∧ M < 2 ^ f ∧ N * evF f M = evF 64 m)) (fun x _ => (intOf x).toNat)
  case atStart => exact ⟨64, m, 1, h, by omega, rfl, rfl, h0, h, by omega⟩
  case round =>
    obtain ⟨f, M, N, hM, hN, rfl, rfl, hg⟩ := hrel
    by_cases h2 : M % 2 = 0
    · have hp : ((M : Int) % 2 == 0) = true := by rw [beq_iff_eq]; omega
      go_wp2_with fail
      exact reven_next hg.out.1 hg.out.2.1 hg.out.2.2 h2 (Nat.lt_of_le_of_lt (evF_le 64 m h0 h).2 h) hM
    · have hp : ((M : Int) % 2 == 0) = false := by rw [beq_eq_false_iff_ne]; omega
      have H : Hid (N = evF 64 m) := by
        obtain ⟨g1, g2, g3⟩ := hg.out
        cases f with
        | zero => simp at g2; omega
        | succ f =>
          have e1 : evF (f + 1) M = 1 := by
            conv => lhs; unfold evF
            rw [if_pos (by omega)]
          rw [e1, Nat.mul_one] at g3
          exact g3
      go_wp2_with fail
      go_ret
      exact ⟨ret1 (by rw [H.out]), rfl⟩
theorem mod_pow_next (B k : Nat) : B % 2 ^ (k + 1) = B % 2 ^ k + 2 ^ k * bitAt B k := Nat.mod_pow_succ
theorem wrap_sum (p q : Nat) : wrap64 (wrap64 (p : Int) + wrap64 (IntKind.u64.wrap (q : Int))) = wrap64 ((p + q : Nat) : Int) := by
  rw [u64w]; unfold wrap64; omega
theorem mul_yes {X B k : Nat} {S : Int} (h : S = wrap64 ((X * (B % 2 ^ k) : Nat) : Int)) (hb : bitAt B k = 1) : wrap64 (S + wrap64 (IntKind.u64.wrap ((X : Int) * 2 ^ k))) = wrap64 ((X * (B % 2 ^ (k + 1)) : Nat) : Int) := by
  have e : (X : Int) * 2 ^ k = ((X * 2 ^ k : Nat) : Int) := by rw [Int.natCast_mul, Int.natCast_pow]; rfl
  have e2 : X * (B % 2 ^ (k + 1)) = X * (B % 2 ^ k) + X * 2 ^ k := by rw [mod_pow_next, hb, Nat.mul_one, Nat.mul_add]
  rw [e2, h, e]
  exact wrap_sum _ _
theorem mul_no {X B k : Nat} {S : Int} (h : S = wrap64 ((X * (B % 2 ^ k) : Nat) : Int)) (hb : bitAt B k = 0) : S = wrap64 ((X * (B % 2 ^ (k + 1)) : Nat) : Int) := by
  rw [mod_pow_next, hb, Nat.mul_zero, Nat.add_zero]
  exact h
theorem mul_end {X B : Nat} {a b S : Int} (ea : IntKind.u64.wrap a = X) (eb : IntKind.u64.wrap b = B) (hB : B < 18446744073709551616) (h : S = wrap64 ((X * (B % 2 ^ 64) : Nat) : Int)) : S = wrap64 (a * b) := by
  rw [h, Nat.mod_eq_of_lt (show B < 2 ^ 64 from hB), Int.natCast_mul, ← ea, ← eb, u64w, u64w, wrap64_mul_mod]
set_option maxRecDepth 100000 in
set_option maxHeartbeats 400000 in
theorem rmul_any (a b : Int) (w : World) :
    Calls Tryd.prog 28 #[.int .i64 a, .int .i64 b] w fun e w' => e = .returned (.int .i64 (wrap64 (a * b))) ∧ w' = w := by
  obtain ⟨X, hX, ea⟩ := u64_nat a
  obtain ⟨B, hB, eb⟩ := u64_nat b
  have EA : Hid _ := ea
  have EB : Hid _ := eb
  go_enter Tryd.func28, Tryd.ntmps28
  go_wp2_with fail
  clear ea
  go_loop [5, 7] (fun s i => ∃ (k : Nat) (S : Int), k ≤ 64 ∧ i = .int .i64 k ∧ s = .int .i64 S ∧ Hid (S = wrap64 ((X * (B % 2 ^ k) : Nat) : Int))) (fun _ i => 64 - (intOf i).toNat)
  case atStart => exact ⟨0, 0, by omega, rfl, rfl, by unfold Hid; simp [Nat.mod_one, wrap64]⟩
  case round =>
    obtain ⟨k, S, hk, rfl, rfl, hS⟩ := hrel
    by_cases hlt : k < 64
    · have hbe := bit_eq B k
      by_cases hb1 : bitAt B k = 1
      · have hp : ((bitAt B k : Int) == 1) = true := by rw [beq_iff_eq]; omega
        have H : Hid _ := mul_yes hS.out hb1
        clear hb1 hS
        go_wp2_with fail
        refine (radd_any _ _ _).mono ?_
        rintro e w' ⟨rfl, rfl⟩
        go_wp2_with fail
        go_round
        case rel => exact ⟨k + 1, _, by omega, by go_num, rfl, H⟩
        case measure => simp [intOf]; omega
      · have hp : ((bitAt B k : Int) == 1) = false := by rw [beq_eq_false_iff_ne]; omega
        have H : Hid _ := mul_no hS.out (by have := bitAt_lt B k; omega)
        clear hb1 hS
        go_wp2_with fail
        go_round
        case rel => exact ⟨k + 1, _, by omega, by go_num, rfl, H⟩
        case measure => simp [intOf]; omega
    · have : k = 64 := by omega
      subst this
      have H : Hid (S = wrap64 (a * b)) := mul_end EA.out EB.out hB hS.out
      go_wp2_with fail
      go_ret
      exact ⟨ret1 H.out, rfl⟩
end Go.Proofs.YtgedhcgaokakpaaDoor
