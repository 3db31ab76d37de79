import Derived.Test.YtdbdgpcbhojcnaaIhlp
import Derived.Test.YtdbdgpcbhojcnaaIdm
set_option linter.unusedVariables false
set_option linter.unusedSimpArgs false
set_option linter.unnecessarySimpa false
/- The laws' own products (winnowlaw11: done with 3): contract. -/
namespace Go.Proofs.Ytdbdgpcbhojcnaa
open Go.RowKit
theorem mul_back {x y : Int} (hx : In64 x) (hy : In64 y) (h0 : x ≠ 0) (h1 : x ≠ -1) : (wrap64 ((wrap64 (x * y)).tdiv x) != y) = !decide (In64 (x * y)) := by
  refine not_in ?_
  have hp := wrap64_in (x * y)
  have hin : In64 ((wrap64 (x * y)).tdiv x) := tdiv_in hp h0 (fun h => h1 h.2)
  rw [wrap64_id hin, bne_iff_ne]
  constructor
  · intro hne hz
    apply hne
    rw [wrap64_id hz, Int.mul_tdiv_cancel_left _ h0]
  · intro hz he
    apply hz
    have e1 := Int.tmod_add_mul_tdiv (wrap64 (x * y)) x
    rw [he] at e1
    have b := tmod_bd (x := wrap64 (x * y)) h0
    have hf : farI x ≤ 9223372036854775808 := (far_bd x hx).2
    have hm : -9223372036854775808 < (wrap64 (x * y)).tmod x ∧ (wrap64 (x * y)).tmod x < 9223372036854775808 := by
      by_cases hs : 0 ≤ wrap64 (x * y)
      · have := b.1 hs; omega
      · have := b.2.1 (by omega); omega
    generalize (wrap64 (x * y)).tmod x = r at *
    generalize x * y = z at *
    unfold In64 wrap64 at *
    omega
theorem neg_wraps (y : Int) (hy : In64 y) : (y == -9223372036854775808) = !decide (In64 (-1 * y)) := by
  rw [show -1 * y = -y by omega]
  by_cases h : y = -9223372036854775808
  · rw [h]; rfl
  · rw [beq_eq_false_iff_ne.2 h, decide_eq_true (by unfold In64 at *; omega)]; rfl
set_option maxHeartbeats 2000000 in
theorem done_3 (x y : Int) (w : World) (hx : In64 x) (hy : In64 y) :
    Calls Try.prog 21 #[.int .i64 3, .int .i64 x, .int .i64 y] w fun e w' => e = .returned (.tuple #[.int .i64 (wrap64 (x * y)), .bool true, .bool (!decide (In64 (x * y)))]) ∧ w' = w := by
  obtain ⟨nb, hnb⟩ : ∃ nb, nb = !decide (In64 (x * y)) := ⟨_, rfl⟩
  rw [← hnb]
  have HNB : Hid (nb = !decide (In64 (x * y))) := hnb
  clear hnb
  by_cases h0 : x = 0
  · have E : Hid (false = !decide (In64 (x * y))) := by unfold Hid; rw [h0, Int.zero_mul]; rfl
    have k0 : (x != 0) = false := by rw [h0]; rfl
    have HX : Hid _ := h0
    clear h0
    go_enter Try.func21, Try.ntmps21
    go_wp2
    go_ret3
    exact ⟨ret3 rfl rfl (E.out.trans HNB.out.symm), rfl⟩
  · have k0 : (x != 0) = true := by simpa using h0
    by_cases h1 : x = -1
    · have k1 : (x == -1) = true := by rw [beq_iff_eq]; exact h1
      have k2 : (x != -1) = false := by rw [h1]; rfl
      have k3 : (x == -9223372036854775808) = false := by rw [h1]; rfl
      have E : Hid ((y == -9223372036854775808) = !decide (In64 (x * y))) := by unfold Hid; rw [h1]; exact neg_wraps y hy
      have HX : Hid _ := And.intro h0 h1
      clear h0 h1
      by_cases hm : y = -9223372036854775808
      · have k4 : (y == -9223372036854775808) = true := by rw [beq_iff_eq]; exact hm
        have E2 : Hid (true = !decide (In64 (x * y))) := by unfold Hid; rw [← E.out, k4]
        have HM : Hid _ := hm
        clear hm
        go_enter Try.func21, Try.ntmps21
        go_wp2
        go_ret3
        exact ⟨ret3 rfl rfl (E2.out.trans HNB.out.symm), rfl⟩
      · have k4 : (y == -9223372036854775808) = false := by rw [beq_eq_false_iff_ne]; exact hm
        have E2 : Hid (false = !decide (In64 (x * y))) := by unfold Hid; rw [← E.out, k4]
        clear hm
        by_cases hq : y = -1
        · have k5 : (y == -1) = true := by rw [beq_iff_eq]; exact hq
          have HQ : Hid _ := hq
          clear hq
          go_enter Try.func21, Try.ntmps21
          go_wp2
          go_ret3
          exact ⟨ret3 rfl rfl (E2.out.trans HNB.out.symm), rfl⟩
        · have k5 : (y == -1) = false := by rw [beq_eq_false_iff_ne]; exact hq
          clear hq
          go_enter Try.func21, Try.ntmps21
          go_wp2
          go_ret3
          exact ⟨ret3 rfl rfl (E2.out.trans HNB.out.symm), rfl⟩
    · have k1 : (x == -1) = false := by rw [beq_eq_false_iff_ne]; exact h1
      have k2 : (x != -1) = true := by simpa using h1
      have E := mul_back hx hy h0 h1
      by_cases hz : In64 (x * y)
      · have E2 : Hid (false = !decide (In64 (x * y))) := by unfold Hid; rw [decide_eq_true hz]; rfl
        rw [decide_eq_true hz] at E
        have E3 : (wrap64 ((wrap64 (x * y)).tdiv x) != y) = false := E
        clear E
        by_cases hy1 : y = -1
        · have m1 : (y == -1) = true := by rw [beq_iff_eq]; exact hy1
          have m2 : (x == -9223372036854775808) = false := by
            rw [beq_eq_false_iff_ne]; intro e; rw [e, hy1] at hz; unfold In64 at hz; omega
          have HY : Hid _ := And.intro hy1 hz
          clear hy1 hz
          go_enter Try.func21, Try.ntmps21
          go_wp2
          go_ret3
          exact ⟨ret3 rfl rfl (E2.out.trans HNB.out.symm), rfl⟩
        · have m1 : (y == -1) = false := by rw [beq_eq_false_iff_ne]; exact hy1
          clear hy1 hz
          go_enter Try.func21, Try.ntmps21
          go_wp2
          go_ret3
          exact ⟨ret3 rfl rfl (E2.out.trans HNB.out.symm), rfl⟩
      · have E2 : Hid (true = !decide (In64 (x * y))) := by unfold Hid; rw [decide_eq_false hz]; rfl
        rw [decide_eq_false hz] at E
        have E3 : (wrap64 ((wrap64 (x * y)).tdiv x) != y) = true := E
        clear E hz
        go_enter Try.func21, Try.ntmps21
        go_wp2
        go_ret3
        exact ⟨ret3 rfl rfl (E2.out.trans HNB.out.symm), rfl⟩
end Go.Proofs.Ytdbdgpcbhojcnaa
