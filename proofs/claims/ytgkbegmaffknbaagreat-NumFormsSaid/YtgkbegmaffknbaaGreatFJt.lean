import Derived.Test.YtgkbegmaffknbaaGreatFJw
set_option linter.unusedVariables false
set_option linter.unusedSimpArgs false
set_option linter.unnecessarySimpa false
/- Jt -/
namespace Go.Proofs.YtgkbegmaffknbaaGreat
open Go.RowKit
theorem less_lt {a b : Int} (h : tW a < tW b) : a < b := by unfold tW at h; omega
theorem less_eq {a b : Int} (h : tW a = tW b) : (wrap64 a < wrap64 b ↔ a < b) := by have := tW_eq a; have := tW_eq b; omega
theorem less_gt {a b : Int} (h : tW b < tW a) : ¬ a < b := by unfold tW at h; omega
set_option maxHeartbeats 400000 in
theorem pless_ex (a b : Int) (w : World) :
    Calls Tryz.prog 248 #[.agg #[.int .i64 (tW a), .int .i64 (wrap64 a)], .agg #[.int .i64 (tW b), .int .i64 (wrap64 b)]] w fun e w' => e = .returned (.bool (decide (a < b))) ∧ w' = (w.alloc (.cells #[.int .i64 (tW a), .int .i64 (wrap64 a)] 157)).alloc (.cells #[.int .i64 (tW b), .int .i64 (wrap64 b)] 157) := by
  have L1 : Hid _ := @less_lt a b
  have L2 : Hid _ := @less_eq a b
  have L3 : Hid _ := @less_gt a b
  generalize tW a = ta at *
  generalize tW b = tb at *
  by_cases h1 : ta < tb
  · have d1 : decide (ta < tb) = true := decide_eq_true h1
    have E : Hid (decide (a < b) = true) := decide_eq_true (L1.out h1)
    go_enter Tryz.func248, Tryz.ntmps248
    go_wp2
    go_ret
    exact ⟨retb E.out.symm, rfl⟩
  · have d1 : decide (ta < tb) = false := decide_eq_false h1
    by_cases h2 : ta = tb
    · subst h2
      have E : Hid (decide (a < b) = decide (wrap64 a < wrap64 b)) := decide_eq_decide.2 (L2.out rfl).symm
      go_enter Tryz.func248, Tryz.ntmps248
      go_wp2
      go_ret
      exact ⟨retb E.out.symm, rfl⟩
    · have h2' : (ta == tb) = false := by simpa using h2
      have E : Hid (decide (a < b) = false) := decide_eq_false (L3.out (by omega))
      go_enter Tryz.func248, Tryz.ntmps248
      go_wp2
      go_ret
      exact ⟨retb E.out.symm, rfl⟩
theorem infoS : (Tryz.prog.info? 159).map (·.size) = some 4 := by kernel_rfl
set_option maxHeartbeats 400000 in
theorem pexact_ex (lo hi : Int) (w : World) :
    Calls Tryz.prog 181 #[.agg #[.int .i64 (tW lo), .int .i64 (wrap64 lo), .int .i64 (tW hi), .int .i64 (wrap64 hi)]] w fun e w' => e = .returned (.bool (decide (In64 lo) && decide (In64 hi))) ∧ w' = w.alloc (.cells #[.int .i64 (tW lo), .int .i64 (wrap64 lo), .int .i64 (tW hi), .int .i64 (wrap64 hi)] 159) := by
  have E1 : Hid _ := tW_zero lo
  have E2 : Hid _ := tW_zero hi
  generalize tW lo = ta at *
  generalize tW hi = tb at *
  generalize decide (In64 lo) = d1 at *
  generalize decide (In64 hi) = d2 at *
  rcases h1 : (ta == 0) with _ | _
  · have E : Hid (false = (d1 && d2)) := by unfold Hid; rw [← E1.out, h1]; rfl
    go_enter Tryz.func181, Tryz.ntmps181
    go_wp2
    go_ret
    exact ⟨retb E.out, rfl⟩
  · have E : Hid ((tb == 0) = (d1 && d2)) := by unfold Hid; rw [← E1.out, h1, E2.out]; rfl
    go_enter Tryz.func181, Tryz.ntmps181
    go_wp2
    go_ret
    exact ⟨retb E.out, rfl⟩
/-- What hull answers. -/
def hullW (lo hi : Int) : Int × Int := if tW lo = tW hi then (wrap64 lo, wrap64 hi) else (-9223372036854775808, 9223372036854775807)
set_option maxHeartbeats 400000 in
theorem phull_any (lo hi : Int) (w0 w : World) (hok : Ok w0 w) :
    Calls Tryz.prog 183 #[.agg #[.int .i64 (tW lo), .int .i64 (wrap64 lo), .int .i64 (tW hi), .int .i64 (wrap64 hi)]] w fun e w' => e = .returned (.agg #[.int .i64 (hullW lo hi).1, .int .i64 (hullW lo hi).2]) ∧ Ok w0 w' := by
  by_cases h : tW lo = tW hi
  · have E : Hid (hullW lo hi = (wrap64 lo, wrap64 hi)) := if_pos h
    generalize tW lo = ta at *
    generalize tW hi = tb at *
    subst h
    go_enter Tryz.func183, Tryz.ntmps183
    go_wp2_with (first | (go_at_call 184; refine (Jpall_ex _).mono ?_; rintro e w' ⟨rfl, rfl⟩) | fail)
    (try simp only [Exit.inBlock, Exit.then]); refine bodyPost_ret (results_cell_row rfl _ _ (w.heap.size + 1) 23 #[_, _] (0, 0) _ rfl (by repeat (first | (refine heap_at _ _ _ ?hx; case hx => (first | (simp; done) | (simp; omega))) | (refine heap_past _ _ _ ?hy ?_; case hy => (first | (simp; done) | (simp; omega))) | fail)) Tryz.underlying23 rfl infoI) rfl ?_
    exact ⟨reti E.out, (by repeat (first | exact hok | refine Ok.alloc ?_ _ | refine Ok.draws ?_ _ | fail))⟩
  · have E : Hid (hullW lo hi = (-9223372036854775808, 9223372036854775807)) := if_neg h
    generalize tW lo = ta at *
    generalize tW hi = tb at *
    have h' : (ta != tb) = true := by simpa using h
    go_enter Tryz.func183, Tryz.ntmps183
    go_wp2_with (first | (go_at_call 184; refine (Jpall_ex _).mono ?_; rintro e w' ⟨rfl, rfl⟩) | fail)
    (try simp only [Exit.inBlock, Exit.then]); refine bodyPost_ret (results_cell_row rfl _ _ (w.heap.size + 1) 23 #[_, _] (0, 0) _ rfl (by repeat (first | (refine heap_at _ _ _ ?hx; case hx => (first | (simp; done) | (simp; omega))) | (refine heap_past _ _ _ ?hy ?_; case hy => (first | (simp; done) | (simp; omega))) | fail)) Tryz.underlying23 rfl infoI) rfl ?_
    exact ⟨reti E.out, (by repeat (first | exact hok | refine Ok.alloc ?_ _ | refine Ok.draws ?_ _ | fail))⟩
def retS (lo hi : Int) : Ending := .returned (.agg #[.int .i64 (tW lo), .int .i64 (wrap64 lo), .int .i64 (tW hi), .int .i64 (wrap64 hi)])
set_option maxHeartbeats 1000000 in
theorem pwith_any (lo hi z : Int) (w0 w : World) (hok : Ok w0 w) :
    Calls Tryz.prog 228 #[.agg #[.int .i64 (tW lo), .int .i64 (wrap64 lo), .int .i64 (tW hi), .int .i64 (wrap64 hi)], .agg #[.int .i64 (tW z), .int .i64 (wrap64 z)]] w fun e w' => e = retS (min lo z) (max hi z) ∧ Ok w0 w' := by
  by_cases h1 : z < lo
  · rw [show min lo z = z by omega]
    have d1 : decide (z < lo) = true := decide_eq_true h1
    by_cases h2 : hi < z
    · rw [show max hi z = z by omega]
      have d2 : decide (hi < z) = true := decide_eq_true h2
      go_enter Tryz.func228, Tryz.ntmps228
      go_wp2_with (first | (go_at_call 248; refine (pless_ex _ _ _).mono ?_; rintro e w' ⟨rfl, rfl⟩) | fail)
      (try simp only [Exit.inBlock, Exit.then]); refine bodyPost_ret (results_cell_row rfl _ _ (w.heap.size + 2) 159 #[_, _, _, _] (0, 0) _ rfl (by repeat (first | (refine heap_at _ _ _ ?hx; case hx => (first | (simp; done) | (simp; omega))) | (refine heap_past _ _ _ ?hy ?_; case hy => (first | (simp; done) | (simp; omega))) | fail)) Tryz.underlying159 rfl infoS) rfl ?_
      exact ⟨rfl, (by repeat (first | exact hok | refine Ok.alloc ?_ _ | refine Ok.draws ?_ _ | fail))⟩
    · rw [show max hi z = hi by omega]
      have d2 : decide (hi < z) = false := decide_eq_false h2
      go_enter Tryz.func228, Tryz.ntmps228
      go_wp2_with (first | (go_at_call 248; refine (pless_ex _ _ _).mono ?_; rintro e w' ⟨rfl, rfl⟩) | fail)
      (try simp only [Exit.inBlock, Exit.then]); refine bodyPost_ret (results_cell_row rfl _ _ (w.heap.size + 2) 159 #[_, _, _, _] (0, 0) _ rfl (by repeat (first | (refine heap_at _ _ _ ?hx; case hx => (first | (simp; done) | (simp; omega))) | (refine heap_past _ _ _ ?hy ?_; case hy => (first | (simp; done) | (simp; omega))) | fail)) Tryz.underlying159 rfl infoS) rfl ?_
      exact ⟨rfl, (by repeat (first | exact hok | refine Ok.alloc ?_ _ | refine Ok.draws ?_ _ | fail))⟩
  · rw [show min lo z = lo by omega]
    have d1 : decide (z < lo) = false := decide_eq_false h1
    by_cases h2 : hi < z
    · rw [show max hi z = z by omega]
      have d2 : decide (hi < z) = true := decide_eq_true h2
      go_enter Tryz.func228, Tryz.ntmps228
      go_wp2_with (first | (go_at_call 248; refine (pless_ex _ _ _).mono ?_; rintro e w' ⟨rfl, rfl⟩) | fail)
      (try simp only [Exit.inBlock, Exit.then]); refine bodyPost_ret (results_cell_row rfl _ _ (w.heap.size + 2) 159 #[_, _, _, _] (0, 0) _ rfl (by repeat (first | (refine heap_at _ _ _ ?hx; case hx => (first | (simp; done) | (simp; omega))) | (refine heap_past _ _ _ ?hy ?_; case hy => (first | (simp; done) | (simp; omega))) | fail)) Tryz.underlying159 rfl infoS) rfl ?_
      exact ⟨rfl, (by repeat (first | exact hok | refine Ok.alloc ?_ _ | refine Ok.draws ?_ _ | fail))⟩
    · rw [show max hi z = hi by omega]
      have d2 : decide (hi < z) = false := decide_eq_false h2
      go_enter Tryz.func228, Tryz.ntmps228
      go_wp2_with (first | (go_at_call 248; refine (pless_ex _ _ _).mono ?_; rintro e w' ⟨rfl, rfl⟩) | fail)
      (try simp only [Exit.inBlock, Exit.then]); refine bodyPost_ret (results_cell_row rfl _ _ (w.heap.size + 2) 159 #[_, _, _, _] (0, 0) _ rfl (by repeat (first | (refine heap_at _ _ _ ?hx; case hx => (first | (simp; done) | (simp; omega))) | (refine heap_past _ _ _ ?hy ?_; case hy => (first | (simp; done) | (simp; omega))) | fail)) Tryz.underlying159 rfl infoS) rfl ?_
      exact ⟨rfl, (by repeat (first | exact hok | refine Ok.alloc ?_ _ | refine Ok.draws ?_ _ | fail))⟩
end Go.Proofs.YtgkbegmaffknbaaGreat
