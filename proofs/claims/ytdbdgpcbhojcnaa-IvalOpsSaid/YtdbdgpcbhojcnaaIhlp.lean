import Derived.Test.YtdbdgpcbhojcnaaIprog
import Derived.OwnWalk
set_option linter.unusedVariables false
set_option linter.unusedSimpArgs false
set_option linter.unnecessarySimpa false
/- The laws' own helpers (winnowlaw11: inside, done): contracts. -/
namespace Go.Proofs.Ytdbdgpcbhojcnaa
open Go.RowKit
theorem ret1i {a b : Int} (h : a = b) : Ending.returned (.int .i64 a) = .returned (.int .i64 b) := by rw [h]
theorem ret3 {a b : Int} {t u p q : Bool} (h1 : a = b) (h2 : u = t) (h3 : p = q) : Ending.returned (.tuple #[.int .i64 a, .bool u, .bool p]) = .returned (.tuple #[.int .i64 b, .bool t, .bool q]) := by rw [h1, h2, h3]
theorem in_n {al ah : Int} (ha1 : In64 al) (ha2 : In64 ah) (hc : al ≤ ah) : IntKind.u64.wrap (IntKind.u64.wrap (IntKind.u64.wrap ah - IntKind.u64.wrap al) + 1) = if al = -9223372036854775808 ∧ ah = 9223372036854775807 then 0 else ah - al + 1 := by
  unfold In64 at *
  rw [u64w, u64w, u64w, u64w]
  split <;> omega
theorem in_r {al ah v : Int} (ha1 : In64 al) (ha2 : In64 ah) (hc : al ≤ ah) (hn : ¬ (al = -9223372036854775808 ∧ ah = 9223372036854775807)) : Mem al ah (wrap64 (IntKind.u64.wrap (IntKind.u64.wrap al + IntKind.u64.wrap v % (ah - al + 1)))) := by
  have h1 := Int.emod_nonneg (IntKind.u64.wrap v) (show ah - al + 1 ≠ 0 by omega)
  have h2 := Int.emod_lt_of_pos (IntKind.u64.wrap v) (show 0 < ah - al + 1 by omega)
  generalize IntKind.u64.wrap v % (ah - al + 1) = r at *
  unfold In64 at *
  unfold Mem wrap64
  rw [u64w, u64w]
  omega
set_option maxHeartbeats 1000000 in
theorem inside_any (al ah v : Int) (w0 w : World) (hok : Ok w0 w) (ha1 : In64 al) (ha2 : In64 ah) (hv : In64 v) (hc : al ≤ ah) :
    Calls Try.prog 20 #[.agg #[.int .i64 al, .int .i64 ah], .int .i64 v] w fun e w' => (∃ r, e = .returned (.int .i64 r) ∧ Mem al ah r) ∧ Ok w0 w' := by
  have e0 := in_n ha1 ha2 hc
  by_cases hn : al = -9223372036854775808 ∧ ah = 9223372036854775807
  · rw [if_pos hn] at e0
    have HM : Hid (Mem al ah v) := by unfold Hid Mem; unfold In64 at hv; omega
    clear hn
    go_enter Try.func20, Try.ntmps20
    go_wp2
    go_ret
    exact ⟨⟨_, rfl, HM.out⟩, hok.alloc _⟩
  · rw [if_neg hn] at e0
    have HM : Hid _ := in_r (v := v) ha1 ha2 hc hn
    obtain ⟨n, hnn⟩ : ∃ n, n = ah - al + 1 := ⟨_, rfl⟩
    rw [← hnn] at e0 HM
    have n0 : ¬ n = 0 := by omega
    have n1 : (n == 0) = false := by rw [beq_eq_false_iff_ne]; exact n0
    have n2 : n ≠ 0 := n0
    have HNN : Hid _ := hnn
    clear hnn hn
    go_enter Try.func20, Try.ntmps20
    go_wp2_with fail
    go_quiet (fail)
    go_wp2_with fail
    go_ret
    exact ⟨⟨_, rfl, by rw [Int.tmod_eq_emod_of_nonneg (by rw [u64w]; omega)]; exact HM.out⟩, (by repeat (first | exact hok | refine Ok.alloc ?_ _ | refine Ok.draws ?_ _ | fail))⟩
set_option maxHeartbeats 400000 in
theorem done_0 (x y : Int) (w : World) (hx : In64 x) :
    Calls Try.prog 21 #[.int .i64 0, .int .i64 x, .int .i64 y] w fun e w' => e = .returned (.tuple #[.int .i64 (wrap64 (-x)), .bool true, .bool (!decide (In64 (-x)))]) ∧ w' = w := by
  obtain ⟨nb, hnb⟩ : ∃ nb, nb = !decide (In64 (-x)) := ⟨_, rfl⟩
  rw [← hnb]
  have HNB : Hid (nb = !decide (In64 (-x))) := hnb
  clear hnb
  have E : Hid ((x == -9223372036854775808) = !decide (In64 (-x))) := by
    unfold Hid
    by_cases h : x = -9223372036854775808
    · rw [h]; rfl
    · rw [beq_eq_false_iff_ne.2 h, decide_eq_true (by unfold In64 at *; omega)]; rfl
  go_enter Try.func21, Try.ntmps21
  go_wp2
  go_ret3
  exact ⟨ret3 rfl rfl (E.out.trans HNB.out.symm), rfl⟩
theorem not_in {z : Int} {b : Bool} (h : b = true ↔ ¬ In64 z) : b = !decide (In64 z) := by
  by_cases hz : In64 z
  · rw [decide_eq_true hz]
    cases b
    · rfl
    · exact absurd hz (h.1 rfl)
  · rw [decide_eq_false hz]; exact h.2 hz
set_option maxHeartbeats 400000 in
theorem done_1 (x y : Int) (w : World) (hx : In64 x) (hy : In64 y) :
    Calls Try.prog 21 #[.int .i64 1, .int .i64 x, .int .i64 y] w fun e w' => e = .returned (.tuple #[.int .i64 (wrap64 (x + y)), .bool true, .bool (!decide (In64 (x + y)))]) ∧ w' = w := by
  obtain ⟨nb, hnb⟩ : ∃ nb, nb = !decide (In64 (x + y)) := ⟨_, rfl⟩
  rw [← hnb]
  have HNB : Hid (nb = !decide (In64 (x + y))) := hnb
  clear hnb
  go_enter Try.func21, Try.ntmps21
  go_wp2
  all_goals go_ret3
  all_goals refine ⟨ret3 rfl rfl (Eq.trans (not_in ?_) HNB.out.symm), rfl⟩
  all_goals ((try unfold wrap64 at *); unfold In64 at *; simp only [decide_eq_true_eq, Bool.false_eq_true, false_iff, true_iff, Bool.true_eq_false]; omega)
set_option maxHeartbeats 400000 in
theorem done_2 (x y : Int) (w : World) (hx : In64 x) (hy : In64 y) :
    Calls Try.prog 21 #[.int .i64 2, .int .i64 x, .int .i64 y] w fun e w' => e = .returned (.tuple #[.int .i64 (wrap64 (x - y)), .bool true, .bool (!decide (In64 (x - y)))]) ∧ w' = w := by
  obtain ⟨nb, hnb⟩ : ∃ nb, nb = !decide (In64 (x - y)) := ⟨_, rfl⟩
  rw [← hnb]
  have HNB : Hid (nb = !decide (In64 (x - y))) := hnb
  clear hnb
  go_enter Try.func21, Try.ntmps21
  go_wp2
  all_goals go_ret3
  all_goals refine ⟨ret3 rfl rfl (Eq.trans (not_in ?_) HNB.out.symm), rfl⟩
  all_goals ((try unfold wrap64 at *); unfold In64 at *; simp only [decide_eq_true_eq, Bool.false_eq_true, false_iff, true_iff, Bool.true_eq_false]; omega)
set_option maxHeartbeats 400000 in
theorem done_z (how x : Int) (hh : how = 4 ∨ how = 5) (w : World) :
    Calls Try.prog 21 #[.int .i64 how, .int .i64 x, .int .i64 0] w fun e w' => e = .returned (.tuple #[.int .i64 0, .bool false, .bool false]) ∧ w' = w := by
  rcases hh with rfl | rfl
  · go_enter Try.func21, Try.ntmps21
    go_wp2
    go_ret3
    exact ⟨rfl, rfl⟩
  · go_enter Try.func21, Try.ntmps21
    go_wp2
    go_ret3
    exact ⟨rfl, rfl⟩
theorem tdiv_m1 (x : Int) : x.tdiv (-1) = -x := by rw [Int.tdiv_neg, Int.tdiv_one]
set_option maxHeartbeats 400000 in
theorem done_4m (x : Int) (w : World) (hx : In64 x) :
    Calls Try.prog 21 #[.int .i64 4, .int .i64 x, .int .i64 (-1)] w fun e w' => e = .returned (.tuple #[.int .i64 (wrap64 (x.tdiv (-1))), .bool true, .bool (!decide (In64 (x.tdiv (-1))))]) ∧ w' = w := by
  have E : Hid ((x == -9223372036854775808) = !decide (In64 (-x))) := by
    unfold Hid
    by_cases h : x = -9223372036854775808
    · rw [h]; rfl
    · rw [beq_eq_false_iff_ne.2 h, decide_eq_true (by unfold In64 at *; omega)]; rfl
  rw [tdiv_m1]
  obtain ⟨nb, hnb⟩ : ∃ nb, nb = !decide (In64 (-x)) := ⟨_, rfl⟩
  rw [← hnb]
  have HNB : Hid (nb = !decide (In64 (-x))) := hnb
  clear hnb
  go_enter Try.func21, Try.ntmps21
  go_wp2
  go_ret3
  exact ⟨ret3 rfl rfl (E.out.trans HNB.out.symm), rfl⟩
set_option maxHeartbeats 400000 in
theorem done_5m (x : Int) (w : World) :
    Calls Try.prog 21 #[.int .i64 5, .int .i64 x, .int .i64 (-1)] w fun e w' => e = .returned (.tuple #[.int .i64 (x.tmod (-1)), .bool true, .bool false]) ∧ w' = w := by
  have E : Hid (x.tmod (-1) = 0) := by unfold Hid; rw [Int.tmod_neg, Int.tmod_one]
  rw [E.out]
  go_enter Try.func21, Try.ntmps21
  go_wp2
  go_ret3
  exact ⟨rfl, rfl⟩
set_option maxHeartbeats 400000 in
theorem done_4 (x y : Int) (w : World) (h0 : y ≠ 0) (h1 : y ≠ -1) :
    Calls Try.prog 21 #[.int .i64 4, .int .i64 x, .int .i64 y] w fun e w' => e = .returned (.tuple #[.int .i64 (wrap64 (x.tdiv y)), .bool true, .bool false]) ∧ w' = w := by
  have k0 : (y == 0) = false := by rw [beq_eq_false_iff_ne]; exact h0
  have k1 : (y == -1) = false := by rw [beq_eq_false_iff_ne]; exact h1
  go_enter Try.func21, Try.ntmps21
  go_wp2
  go_ret3
  exact ⟨rfl, rfl⟩
set_option maxHeartbeats 400000 in
theorem done_5 (x y : Int) (w : World) (h0 : y ≠ 0) (h1 : y ≠ -1) :
    Calls Try.prog 21 #[.int .i64 5, .int .i64 x, .int .i64 y] w fun e w' => e = .returned (.tuple #[.int .i64 (x.tmod y), .bool true, .bool false]) ∧ w' = w := by
  have k0 : (y == 0) = false := by rw [beq_eq_false_iff_ne]; exact h0
  have k1 : (y == -1) = false := by rw [beq_eq_false_iff_ne]; exact h1
  go_enter Try.func21, Try.ntmps21
  go_wp2
  go_ret3
  exact ⟨rfl, rfl⟩
end Go.Proofs.Ytdbdgpcbhojcnaa
