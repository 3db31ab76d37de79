import Derived.Test.YtgedhcgaokakpaaDoorTaken
import Derived.Test.YtgedhcgaokakpaaDoorCarry
/- The document's answer: Add, Neg, Abs. -/
namespace Go.Proofs.YtgedhcgaokakpaaDoor
open Go.RowKit
theorem radd_end {x a b : Nat} {A B : Int} (hA : IntKind.u64.wrap A = a) (hB : IntKind.u64.wrap B = b) (h : (x + 0) % 18446744073709551616 = (a + b) % 18446744073709551616) : wrap64 (x : Int) = wrap64 (A + B) := by
  rw [u64w] at hA hB
  unfold wrap64
  omega
theorem u64_nat (a : Int) : ∃ x : Nat, x < 18446744073709551616 ∧ IntKind.u64.wrap a = x := by
  refine ⟨(IntKind.u64.wrap a).toNat, ?_, ?_⟩ <;> rw [u64w] <;> omega
theorem radd_next {p q s : Nat} (hp : p < 18446744073709551616) (hq : q < 18446744073709551616) (h0 : ¬ q = 0) (hg : (p + q) % 18446744073709551616 = s % 18446744073709551616) :
    (∃ p1 q1 : Nat, p1 < 18446744073709551616 ∧ q1 < 18446744073709551616 ∧ Value.int .u64 ((p ^^^ q : Nat) : Int) = .int .u64 p1 ∧ Value.int .u64 (IntKind.u64.wrap (((p &&& q : Nat) : Int) * 2)) = .int .u64 q1 ∧ Hid ((p1 + q1) % 18446744073709551616 = s % 18446744073709551616)) ∧
    mu (intOf (Value.int .u64 (IntKind.u64.wrap (((p &&& q : Nat) : Int) * 2)))).toNat < mu (intOf (Value.int .u64 (q : Int))).toNat := by
  have hc : p &&& q < 18446744073709551616 := Nat.lt_of_le_of_lt Nat.and_le_left hp
  have e : IntKind.u64.wrap (((p &&& q : Nat) : Int) * 2) = ((2 * (p &&& q) % 18446744073709551616 : Nat) : Int) := by
    rw [u64w]; generalize p &&& q = c at *; omega
  obtain ⟨s1, s2⟩ := radd_step p q hp hq
  refine ⟨⟨p ^^^ q, 2 * (p &&& q) % 18446744073709551616, s2, Nat.mod_lt _ (by omega), rfl, by rw [e], s1.trans hg⟩, ?_⟩
  rw [e]
  simp only [intOf, Int.toNat_natCast]
  exact mu_down p q hq h0
set_option maxHeartbeats 400000 in
theorem radd_any (a b : Int) (w : World) :
    Calls Tryd.prog 26 #[.int .i64 a, .int .i64 b] w fun e w' => e = .returned (.int .i64 (wrap64 (a + b))) ∧ w' = w := by
  obtain ⟨x, hx, ha⟩ := u64_nat a
  obtain ⟨y, hy, hb⟩ := u64_nat b
  have HA : Hid _ := ha
  have HB : Hid _ := hb
  go_enter Tryd.func26, Tryd.ntmps26
  go_wp2
  clear ha hb
  go_loop [5, 6, 7] (fun u v _ => ∃ p q : Nat, p < 18446744073709551616 ∧ q < 18446744073709551616 ∧ u = .int .u64 p ∧ v = .int .u64 q ∧ Hid ((p + q) % 18446744073709551616 = (x + y) % 18446744073709551616)) (fun _ v _ => mu (intOf v).toNat)
  case atStart => exact ⟨x, y, hx, hy, rfl, rfl, rfl⟩
  case round =>
    obtain ⟨p, q, hp, hq, rfl, rfl, hg⟩ := hrel
    by_cases h0 : q = 0
    · subst h0
      go_wp2
      go_ret
      exact ⟨ret1 (radd_end HA.out HB.out hg.out), rfl⟩
    · have hq1 : ((q : Int) != 0) = true := by simpa using h0
      have e1 := u64_and_nat p q hp hq
      have e2 := u64_xor_nat p q hp hq
      go_wp2
      exact radd_next hp hq h0 hg.out
theorem compl_nat (n x : Nat) (h : x < 2 ^ n) : (2 ^ n - 1) ^^^ x = 2 ^ n - (x + 1) := by
  apply Nat.eq_of_testBit_eq
  intro i
  rw [Nat.testBit_xor, Nat.testBit_two_pow_sub_succ h, Nat.testBit_two_pow_sub_one]
  by_cases hi : i < n
  · simp [hi]
  · have : x.testBit i = false := Nat.testBit_lt_two_pow (Nat.lt_of_lt_of_le h (Nat.pow_le_pow_right (by omega) (by omega)))
    simp [hi, this]
theorem not_u64 (x : Nat) (h : x < 18446744073709551616) : bits .xor .u64 IntKind.u64.max (x : Int) = ((18446744073709551616 - (x + 1) : Nat) : Int) := by
  have e : IntKind.u64.max = ((18446744073709551615 : Nat) : Int) := rfl
  rw [e, u64_xor_nat _ _ (by omega) h]
  exact congrArg Int.ofNat (compl_nat 64 x h)
theorem rneg_eq (a : Int) : wrap64 (wrap64 (bits .xor .u64 IntKind.u64.max (IntKind.u64.wrap a)) + 1) = wrap64 (-a) := by
  obtain ⟨x, hx, ha⟩ := u64_nat a
  rw [ha, not_u64 x hx]
  rw [u64w] at ha
  unfold wrap64
  omega
set_option maxHeartbeats 400000 in
theorem rneg_any (a : Int) (w : World) :
    Calls Tryd.prog 29 #[.int .i64 a] w fun e w' => e = .returned (.int .i64 (wrap64 (-a))) ∧ w' = w := by
  go_enter Tryd.func29, Tryd.ntmps29
  go_wp2_with (go_at_call 26; refine (radd_any _ _ _).mono ?_; rintro e w' ⟨rfl, rfl⟩; rw [rneg_eq a])
  go_ret
  exact ⟨rfl, rfl⟩
theorem abs_neg {a : Int} (h : a < 0) (h1 : -9223372036854775808 ≤ a) : IntKind.u64.wrap (wrap64 (-a)) = (a.natAbs : Int) := by
  rw [u64w]; unfold wrap64; omega
theorem abs_pos {a : Int} (h : 0 ≤ a) (h1 : a ≤ 9223372036854775807) : IntKind.u64.wrap a = (a.natAbs : Int) := by
  rw [u64w]; omega
set_option maxHeartbeats 400000 in
theorem rabs_any (a : Int) (ha : In64 a) (w : World) :
    Calls Tryd.prog 44 #[.int .i64 a] w fun e w' => e = .returned (.int .u64 (a.natAbs : Int)) ∧ w' = w := by
  by_cases h : a < 0
  · have H : Hid _ := abs_neg h ha.1
    go_enter Tryd.func44, Tryd.ntmps44
    go_wp2_with (go_at_call 29; refine (rneg_any _ _).mono ?_; rintro e w' ⟨rfl, rfl⟩)
    go_ret
    exact ⟨ret1 H.out, rfl⟩
  · have H : Hid _ := abs_pos (by omega) ha.2
    have h' : 0 ≤ a := by omega
    clear h
    go_enter Tryd.func44, Tryd.ntmps44
    go_wp2_with fail
    go_ret
    exact ⟨ret1 H.out, rfl⟩
end Go.Proofs.YtgedhcgaokakpaaDoor
