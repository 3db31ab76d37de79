import Derived.Test.YtbclkkpddomoiaaGreatItm
set_option linter.unusedVariables false
set_option linter.unusedSimpArgs false
set_option linter.unnecessarySimpa false
/- The document's span, Neg, Add, Sub (winnowref11): contracts. -/
namespace Go.Proofs.YtbclkkpddomoiaaGreat
open Go.RowKit
set_option maxHeartbeats 400000 in
theorem wminus_ex (a b : Int) (w : World) (ha : Small a) (hb : Small b) :
    Calls Tryz.prog 132 #[.agg #[.int .i64 (hiW a), .int .u64 (loW a)], .agg #[.int .i64 (hiW b), .int .u64 (loW b)]] w fun e w' => e = .returned (.agg #[.int .i64 (hiW (a - b)), .int .u64 (loW (a - b))]) ∧ w' = (((w.alloc (.cells #[.int .i64 (hiW a), .int .u64 (loW a)] 116)).alloc (.cells #[.int .i64 (hiW b), .int .u64 (loW b)] 116)).alloc (.cells #[.int .i64 (hiW (a - b)), .int .u64 (loW (a - b))] 116)).alloc (.cells #[.int .i64 (hiW (a - b)), .int .u64 (loW (a - b))] 116) := by
  go_enter Tryz.func132, Tryz.ntmps132
  go_wp2
  · rename_i h0
    (try simp only [Exit.inBlock, Exit.then]); refine bodyPost_ret (results_cell_row rfl _ _ (w.heap.size + 2) 116 #[_, _] (0, 0) _ rfl (by repeat (first | (refine heap_at _ _ _ ?hx; case hx => (first | (simp; done) | (simp; omega))) | (refine heap_past _ _ _ ?hy ?_; case hy => (first | (simp; done) | (simp; omega))) | fail)) Tryz.underlying116 rfl infoW) rfl ?_
    rw [(minus_c ha hb h0).1, (minus_c ha hb h0).2]
    exact ⟨rfl, rfl⟩
  · rename_i h0
    (try simp only [Exit.inBlock, Exit.then]); refine bodyPost_ret (results_cell_row rfl _ _ (w.heap.size + 2) 116 #[_, _] (0, 0) _ rfl (by repeat (first | (refine heap_at _ _ _ ?hx; case hx => (first | (simp; done) | (simp; omega))) | (refine heap_past _ _ _ ?hy ?_; case hy => (first | (simp; done) | (simp; omega))) | fail)) Tryz.underlying116 rfl infoW) rfl ?_
    rw [(minus_n ha hb h0).1, (minus_n ha hb h0).2]
    exact ⟨rfl, rfl⟩
set_option maxHeartbeats 400000 in
theorem wplus_ex (a b : Int) (w : World) (ha : Small a) (hb : Small b) :
    Calls Tryz.prog 135 #[.agg #[.int .i64 (hiW a), .int .u64 (loW a)], .agg #[.int .i64 (hiW b), .int .u64 (loW b)]] w fun e w' => e = .returned (.agg #[.int .i64 (hiW (a + b)), .int .u64 (loW (a + b))]) ∧ w' = (((w.alloc (.cells #[.int .i64 (hiW a), .int .u64 (loW a)] 116)).alloc (.cells #[.int .i64 (hiW b), .int .u64 (loW b)] 116)).alloc (.cells #[.int .i64 (hiW (a + b)), .int .u64 (loW (a + b))] 116)).alloc (.cells #[.int .i64 (hiW (a + b)), .int .u64 (loW (a + b))] 116) := by
  go_enter Tryz.func135, Tryz.ntmps135
  go_wp2
  · rename_i h0
    (try simp only [Exit.inBlock, Exit.then]); refine bodyPost_ret (results_cell_row rfl _ _ (w.heap.size + 2) 116 #[_, _] (0, 0) _ rfl (by repeat (first | (refine heap_at _ _ _ ?hx; case hx => (first | (simp; done) | (simp; omega))) | (refine heap_past _ _ _ ?hy ?_; case hy => (first | (simp; done) | (simp; omega))) | fail)) Tryz.underlying116 rfl infoW) rfl ?_
    rw [(plus_c ha hb h0).1, (plus_c ha hb h0).2]
    exact ⟨rfl, rfl⟩
  · rename_i h0
    (try simp only [Exit.inBlock, Exit.then]); refine bodyPost_ret (results_cell_row rfl _ _ (w.heap.size + 2) 116 #[_, _] (0, 0) _ rfl (by repeat (first | (refine heap_at _ _ _ ?hx; case hx => (first | (simp; done) | (simp; omega))) | (refine heap_past _ _ _ ?hy ?_; case hy => (first | (simp; done) | (simp; omega))) | fail)) Tryz.underlying116 rfl infoW) rfl ?_
    rw [(plus_n ha hb h0).1, (plus_n ha hb h0).2]
    exact ⟨rfl, rfl⟩
set_option maxHeartbeats 400000 in
theorem wfits_ex (a : Int) (w : World) :
    Calls Tryz.prog 139 #[.agg #[.int .i64 (hiW a), .int .u64 (loW a)]] w fun e w' => e = .returned (.bool (decide (In64 a))) ∧ w' = w.alloc (.cells #[.int .i64 (hiW a), .int .u64 (loW a)] 116) := by
  have E : Hid _ := fits_eq a
  go_enter Tryz.func139, Tryz.ntmps139
  go_wp2
  go_ret
  exact ⟨retb E.out, rfl⟩
set_option maxHeartbeats 400000 in
theorem rempty_ex (l h : Int) (w : World) :
    Calls Tryz.prog 59 #[.agg #[.int .i64 l, .int .i64 h]] w fun e w' => e = .returned (.bool (decide (h < l))) ∧ w' = w.alloc (.cells #[.int .i64 l, .int .i64 h] 23) := by
  go_enter Tryz.func59, Tryz.ntmps59
  go_wp2
  go_ret
  exact ⟨rfl, rfl⟩
theorem wlo (z : Int) : wrap64 (loW z) = wrap64 z := by unfold loW wrap64; omega
theorem spanI_yes {lo hi : Int} (h1 : In64 lo) (h2 : In64 hi) : spanI lo hi = (wrap64 (loW lo), wrap64 (loW hi), true) := by
  unfold spanI; rw [if_pos ⟨h1, h2⟩, wlo, wlo, wrap64_id h1, wrap64_id h2]
theorem spanI_full {lo hi : Int} (h1 : ¬ (In64 lo ∧ In64 hi)) (h2 : 18446744073709551615 ≤ hi - lo ∨ wrap64 hi < wrap64 lo) : spanI lo hi = (-9223372036854775808, 9223372036854775807, false) := by
  unfold spanI; rw [if_neg h1, if_pos h2]
theorem spanI_part {lo hi : Int} (h1 : ¬ (In64 lo ∧ In64 hi)) (h2 : ¬ (18446744073709551615 ≤ hi - lo ∨ wrap64 hi < wrap64 lo)) : spanI lo hi = (wrap64 (loW lo), wrap64 (loW hi), false) := by
  unfold spanI; rw [if_neg h1, if_neg h2, wlo, wlo]
theorem wide_hi {lo hi : Int} (h : lo ≤ hi) (h1 : 0 < hiW (hi - lo)) : 18446744073709551615 ≤ hi - lo := by unfold hiW at h1; omega
theorem wide_lo {lo hi : Int} (h : lo ≤ hi) (h1 : loW (hi - lo) = 18446744073709551615) : 18446744073709551615 ≤ hi - lo := by unfold loW at h1; omega
theorem wide_no {lo hi : Int} (h : lo ≤ hi) (h1 : ¬ 0 < hiW (hi - lo)) (h2 : loW (hi - lo) ≠ 18446744073709551615) : ¬ 18446744073709551615 ≤ hi - lo := by unfold hiW at h1; unfold loW at h2; omega
set_option maxHeartbeats 4000000 in
theorem wspan_a (lo hi : Int) (w0 w : World) (hok : Ok w0 w) (hl : Small lo) (hh : Small hi) (hle : lo ≤ hi) (c1 : ¬ In64 lo) :
    Calls Tryz.prog 131 #[.agg #[.int .i64 (hiW lo), .int .u64 (loW lo)], .agg #[.int .i64 (hiW hi), .int .u64 (loW hi)]] w fun e w' => e = .returned (.tuple #[.agg #[.int .i64 (spanI lo hi).1, .int .i64 (spanI lo hi).2.1], .bool (spanI lo hi).2.2]) ∧ Ok w0 w' := by
  have hn : ¬ (In64 lo ∧ In64 hi) := fun h => c1 h.1
  have d1 : decide (In64 lo) = false := decide_eq_false c1
  clear c1
  by_cases p1 : 0 < hiW (hi - lo)
  · have E : Hid _ := spanI_full hn (Or.inl (wide_hi hle p1))
    clear hn
    go_enter Tryz.func131, Tryz.ntmps131
    go_wp2_with (first | (go_at_call 132; refine (wminus_ex _ _ _ hh hl).mono ?_; rintro e w' ⟨rfl, rfl⟩) | (go_at_call 139; refine (wfits_ex _ _).mono ?_; rintro e w' ⟨rfl, rfl⟩) | (go_at_call 59; refine (rempty_ex _ _ _).mono ?_; rintro e w' ⟨rfl, rfl⟩))
    (try simp only [Exit.inBlock, Exit.then]); refine bodyPost_ret (results_iv rfl _ _ (w.heap.size + 2) 23 #[_, _] (0, 0) _ rfl (by repeat (first | (refine heap_at _ _ _ ?hx; case hx => (first | (simp; done) | (simp; omega))) | (refine heap_past _ _ _ ?hy ?_; case hy => (first | (simp; done) | (simp; omega))) | fail)) Tryz.underlying23 rfl infoI) rfl ?_
    exact ⟨retib E.out, (by repeat (first | exact hok | refine Ok.alloc ?_ _ | refine Ok.draws ?_ _ | fail))⟩
  · by_cases p2 : loW (hi - lo) = 18446744073709551615
    · have E : Hid _ := spanI_full hn (Or.inl (wide_lo hle p2))
      have q2 : (loW (hi - lo) == 18446744073709551615) = true := by rw [beq_iff_eq]; exact p2
      have HP : Hid _ := p2
      clear hn p2
      go_enter Tryz.func131, Tryz.ntmps131
      go_wp2_with (first | (go_at_call 132; refine (wminus_ex _ _ _ hh hl).mono ?_; rintro e w' ⟨rfl, rfl⟩) | (go_at_call 139; refine (wfits_ex _ _).mono ?_; rintro e w' ⟨rfl, rfl⟩) | (go_at_call 59; refine (rempty_ex _ _ _).mono ?_; rintro e w' ⟨rfl, rfl⟩))
      (try simp only [Exit.inBlock, Exit.then]); refine bodyPost_ret (results_iv rfl _ _ (w.heap.size + 2) 23 #[_, _] (0, 0) _ rfl (by repeat (first | (refine heap_at _ _ _ ?hx; case hx => (first | (simp; done) | (simp; omega))) | (refine heap_past _ _ _ ?hy ?_; case hy => (first | (simp; done) | (simp; omega))) | fail)) Tryz.underlying23 rfl infoI) rfl ?_
      exact ⟨retib E.out, (by repeat (first | exact hok | refine Ok.alloc ?_ _ | refine Ok.draws ?_ _ | fail))⟩
    · have q2 : (loW (hi - lo) == 18446744073709551615) = false := by rw [beq_eq_false_iff_ne]; exact p2
      by_cases p3 : wrap64 (loW hi) < wrap64 (loW lo)
      · have E : Hid _ := spanI_full hn (Or.inr (by rw [← wlo hi, ← wlo lo]; exact p3))
        have q3 : decide (wrap64 (loW hi) < wrap64 (loW lo)) = true := decide_eq_true p3
        clear hn p2
        go_enter Tryz.func131, Tryz.ntmps131
        go_wp2_with (first | (go_at_call 132; refine (wminus_ex _ _ _ hh hl).mono ?_; rintro e w' ⟨rfl, rfl⟩) | (go_at_call 139; refine (wfits_ex _ _).mono ?_; rintro e w' ⟨rfl, rfl⟩) | (go_at_call 59; refine (rempty_ex _ _ _).mono ?_; rintro e w' ⟨rfl, rfl⟩))
        (try simp only [Exit.inBlock, Exit.then]); refine bodyPost_ret (results_iv rfl _ _ (w.heap.size + 2) 23 #[_, _] (0, 0) _ rfl (by repeat (first | (refine heap_at _ _ _ ?hx; case hx => (first | (simp; done) | (simp; omega))) | (refine heap_past _ _ _ ?hy ?_; case hy => (first | (simp; done) | (simp; omega))) | fail)) Tryz.underlying23 rfl infoI) rfl ?_
        exact ⟨retib E.out, (by repeat (first | exact hok | refine Ok.alloc ?_ _ | refine Ok.draws ?_ _ | fail))⟩
      · have E : Hid _ := spanI_part hn (fun h => h.elim (wide_no hle p1 p2) (fun h => p3 (by rw [wlo, wlo]; exact h)))
        have q3 : decide (wrap64 (loW hi) < wrap64 (loW lo)) = false := decide_eq_false p3
        clear hn p2
        go_enter Tryz.func131, Tryz.ntmps131
        go_wp2_with (first | (go_at_call 132; refine (wminus_ex _ _ _ hh hl).mono ?_; rintro e w' ⟨rfl, rfl⟩) | (go_at_call 139; refine (wfits_ex _ _).mono ?_; rintro e w' ⟨rfl, rfl⟩) | (go_at_call 59; refine (rempty_ex _ _ _).mono ?_; rintro e w' ⟨rfl, rfl⟩))
        (try simp only [Exit.inBlock, Exit.then]); refine bodyPost_ret (results_iv rfl _ _ (w.heap.size + 2) 23 #[_, _] (0, 0) _ rfl (by repeat (first | (refine heap_at _ _ _ ?hx; case hx => (first | (simp; done) | (simp; omega))) | (refine heap_past _ _ _ ?hy ?_; case hy => (first | (simp; done) | (simp; omega))) | fail)) Tryz.underlying23 rfl infoI) rfl ?_
        exact ⟨retib E.out, (by repeat (first | exact hok | refine Ok.alloc ?_ _ | refine Ok.draws ?_ _ | fail))⟩
set_option maxHeartbeats 4000000 in
theorem wspan_b (lo hi : Int) (w0 w : World) (hok : Ok w0 w) (hl : Small lo) (hh : Small hi) (hle : lo ≤ hi) (c1 : In64 lo) (c2 : ¬ In64 hi) :
    Calls Tryz.prog 131 #[.agg #[.int .i64 (hiW lo), .int .u64 (loW lo)], .agg #[.int .i64 (hiW hi), .int .u64 (loW hi)]] w fun e w' => e = .returned (.tuple #[.agg #[.int .i64 (spanI lo hi).1, .int .i64 (spanI lo hi).2.1], .bool (spanI lo hi).2.2]) ∧ Ok w0 w' := by
  have hn : ¬ (In64 lo ∧ In64 hi) := fun h => c2 h.2
  have d1 : decide (In64 lo) = true := decide_eq_true c1
  have d2 : decide (In64 hi) = false := decide_eq_false c2
  clear c1 c2
  by_cases p1 : 0 < hiW (hi - lo)
  · have E : Hid _ := spanI_full hn (Or.inl (wide_hi hle p1))
    clear hn
    go_enter Tryz.func131, Tryz.ntmps131
    go_wp2_with (first | (go_at_call 132; refine (wminus_ex _ _ _ hh hl).mono ?_; rintro e w' ⟨rfl, rfl⟩) | (go_at_call 139; refine (wfits_ex _ _).mono ?_; rintro e w' ⟨rfl, rfl⟩) | (go_at_call 59; refine (rempty_ex _ _ _).mono ?_; rintro e w' ⟨rfl, rfl⟩))
    (try simp only [Exit.inBlock, Exit.then]); refine bodyPost_ret (results_iv rfl _ _ (w.heap.size + 2) 23 #[_, _] (0, 0) _ rfl (by repeat (first | (refine heap_at _ _ _ ?hx; case hx => (first | (simp; done) | (simp; omega))) | (refine heap_past _ _ _ ?hy ?_; case hy => (first | (simp; done) | (simp; omega))) | fail)) Tryz.underlying23 rfl infoI) rfl ?_
    exact ⟨retib E.out, (by repeat (first | exact hok | refine Ok.alloc ?_ _ | refine Ok.draws ?_ _ | fail))⟩
  · by_cases p2 : loW (hi - lo) = 18446744073709551615
    · have E : Hid _ := spanI_full hn (Or.inl (wide_lo hle p2))
      have q2 : (loW (hi - lo) == 18446744073709551615) = true := by rw [beq_iff_eq]; exact p2
      have HP : Hid _ := p2
      clear hn p2
      go_enter Tryz.func131, Tryz.ntmps131
      go_wp2_with (first | (go_at_call 132; refine (wminus_ex _ _ _ hh hl).mono ?_; rintro e w' ⟨rfl, rfl⟩) | (go_at_call 139; refine (wfits_ex _ _).mono ?_; rintro e w' ⟨rfl, rfl⟩) | (go_at_call 59; refine (rempty_ex _ _ _).mono ?_; rintro e w' ⟨rfl, rfl⟩))
      (try simp only [Exit.inBlock, Exit.then]); refine bodyPost_ret (results_iv rfl _ _ (w.heap.size + 2) 23 #[_, _] (0, 0) _ rfl (by repeat (first | (refine heap_at _ _ _ ?hx; case hx => (first | (simp; done) | (simp; omega))) | (refine heap_past _ _ _ ?hy ?_; case hy => (first | (simp; done) | (simp; omega))) | fail)) Tryz.underlying23 rfl infoI) rfl ?_
      exact ⟨retib E.out, (by repeat (first | exact hok | refine Ok.alloc ?_ _ | refine Ok.draws ?_ _ | fail))⟩
    · have q2 : (loW (hi - lo) == 18446744073709551615) = false := by rw [beq_eq_false_iff_ne]; exact p2
      by_cases p3 : wrap64 (loW hi) < wrap64 (loW lo)
      · have E : Hid _ := spanI_full hn (Or.inr (by rw [← wlo hi, ← wlo lo]; exact p3))
        have q3 : decide (wrap64 (loW hi) < wrap64 (loW lo)) = true := decide_eq_true p3
        clear hn p2
        go_enter Tryz.func131, Tryz.ntmps131
        go_wp2_with (first | (go_at_call 132; refine (wminus_ex _ _ _ hh hl).mono ?_; rintro e w' ⟨rfl, rfl⟩) | (go_at_call 139; refine (wfits_ex _ _).mono ?_; rintro e w' ⟨rfl, rfl⟩) | (go_at_call 59; refine (rempty_ex _ _ _).mono ?_; rintro e w' ⟨rfl, rfl⟩))
        (try simp only [Exit.inBlock, Exit.then]); refine bodyPost_ret (results_iv rfl _ _ (w.heap.size + 2) 23 #[_, _] (0, 0) _ rfl (by repeat (first | (refine heap_at _ _ _ ?hx; case hx => (first | (simp; done) | (simp; omega))) | (refine heap_past _ _ _ ?hy ?_; case hy => (first | (simp; done) | (simp; omega))) | fail)) Tryz.underlying23 rfl infoI) rfl ?_
        exact ⟨retib E.out, (by repeat (first | exact hok | refine Ok.alloc ?_ _ | refine Ok.draws ?_ _ | fail))⟩
      · have E : Hid _ := spanI_part hn (fun h => h.elim (wide_no hle p1 p2) (fun h => p3 (by rw [wlo, wlo]; exact h)))
        have q3 : decide (wrap64 (loW hi) < wrap64 (loW lo)) = false := decide_eq_false p3
        clear hn p2
        go_enter Tryz.func131, Tryz.ntmps131
        go_wp2_with (first | (go_at_call 132; refine (wminus_ex _ _ _ hh hl).mono ?_; rintro e w' ⟨rfl, rfl⟩) | (go_at_call 139; refine (wfits_ex _ _).mono ?_; rintro e w' ⟨rfl, rfl⟩) | (go_at_call 59; refine (rempty_ex _ _ _).mono ?_; rintro e w' ⟨rfl, rfl⟩))
        (try simp only [Exit.inBlock, Exit.then]); refine bodyPost_ret (results_iv rfl _ _ (w.heap.size + 2) 23 #[_, _] (0, 0) _ rfl (by repeat (first | (refine heap_at _ _ _ ?hx; case hx => (first | (simp; done) | (simp; omega))) | (refine heap_past _ _ _ ?hy ?_; case hy => (first | (simp; done) | (simp; omega))) | fail)) Tryz.underlying23 rfl infoI) rfl ?_
        exact ⟨retib E.out, (by repeat (first | exact hok | refine Ok.alloc ?_ _ | refine Ok.draws ?_ _ | fail))⟩
set_option maxHeartbeats 4000000 in
theorem wspan_any (lo hi : Int) (w0 w : World) (hok : Ok w0 w) (hl : Small lo) (hh : Small hi) (hle : lo ≤ hi) :
    Calls Tryz.prog 131 #[.agg #[.int .i64 (hiW lo), .int .u64 (loW lo)], .agg #[.int .i64 (hiW hi), .int .u64 (loW hi)]] w fun e w' => e = .returned (.tuple #[.agg #[.int .i64 (spanI lo hi).1, .int .i64 (spanI lo hi).2.1], .bool (spanI lo hi).2.2]) ∧ Ok w0 w' := by
  by_cases c1 : In64 lo
  · by_cases c2 : In64 hi
    · have E : Hid _ := spanI_yes c1 c2
      have d1 : decide (In64 lo) = true := decide_eq_true c1
      have d2 : decide (In64 hi) = true := decide_eq_true c2
      clear c1 c2
      go_enter Tryz.func131, Tryz.ntmps131
      go_wp2_with (first | (go_at_call 132; refine (wminus_ex _ _ _ hh hl).mono ?_; rintro e w' ⟨rfl, rfl⟩) | (go_at_call 139; refine (wfits_ex _ _).mono ?_; rintro e w' ⟨rfl, rfl⟩) | (go_at_call 59; refine (rempty_ex _ _ _).mono ?_; rintro e w' ⟨rfl, rfl⟩))
      (try simp only [Exit.inBlock, Exit.then]); refine bodyPost_ret (results_iv rfl _ _ (w.heap.size + 2) 23 #[_, _] (0, 0) _ rfl (by repeat (first | (refine heap_at _ _ _ ?hx; case hx => (first | (simp; done) | (simp; omega))) | (refine heap_past _ _ _ ?hy ?_; case hy => (first | (simp; done) | (simp; omega))) | fail)) Tryz.underlying23 rfl infoI) rfl ?_
      exact ⟨retib E.out, (by repeat (first | exact hok | refine Ok.alloc ?_ _ | refine Ok.draws ?_ _ | fail))⟩
    · exact wspan_b lo hi w0 w hok hl hh hle c1 c2
  · exact wspan_a lo hi w0 w hok hl hh hle c1
end Go.Proofs.YtbclkkpddomoiaaGreat
