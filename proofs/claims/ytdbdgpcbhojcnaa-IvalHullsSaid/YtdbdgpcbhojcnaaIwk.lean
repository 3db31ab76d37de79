import Derived.Test.YtdbdgpcbhojcnaaIprog
set_option linter.unusedVariables false
set_option linter.unusedSimpArgs false
set_option linter.unnecessarySimpa false
/- The laws' fixed fact (winnowlaw11.works): it is true. -/
namespace Go.Proofs.Ytdbdgpcbhojcnaa
open Go.RowKit
theorem wk_add : addI 1 2 10 20 = (11, 22, true) := by decide
theorem wk_join : joinI 1 2 5 6 = (1, 6) := by decide
theorem wk_widen : widenI 0 3 0 4 [2, 10, 100] = (0, 10) := by decide
theorem wk_has : hasI 1 6 4 = true := by decide
theorem wk_leq : leqI 11 22 0 22 = true := by decide
theorem three_at (w : World) (g : Nat) (a b c : Int) {t : TypeId} (hg : g = w.heap.size) : IntsAt (w.alloc (.cells #[.int .i64 a, .int .i64 b, .int .i64 c] t)) g 0 [a, b, c] := by
  subst hg
  have hr := heap_new0 w (.cells #[.int .i64 a, .int .i64 b, .int .i64 c] t)
  refine ⟨?_, by simp, by simp⟩
  intro i hi
  rw [cell_of_row _ _ _ _ _ _ hr]
  match i, hi with
  | 0, _ => rfl
  | 1, _ => rfl
  | 2, _ => rfl
set_option maxHeartbeats 1000000 in
theorem works_any (w0 w : World) (hok : Ok w0 w) :
    Calls Try.prog 8 #[] w fun e w' => e = .returned (.bool true) ∧ Ok w0 w' := by
  have hle := hok.le
  have E1 : Hid _ := wk_add
  go_enter Try.func8, Try.ntmps8
  go_wp2_with fail
  refine (padd_any 1 2 10 20 w w (Ok.refl _) (by decide) (by decide) (by decide) (by decide)).mono ?_
  rintro e w1 ⟨rfl, hb1⟩
  rw [E1.out]
  go_wp2_with fail
  refine (pjoin_any 1 2 5 6 _ _ (Ok.refl _)).mono ?_
  rintro e w2 ⟨rfl, hb2⟩
  rw [wk_join]
  have r2 := Ok.row' hb2 (heap_new0 _ _)
  have ok2 : Ok w w2 := Ok.step (hb1.alloc _) hb2
  go_wp2_with fail
  refine (pwiden_any 0 3 0 4 _ [2, 10, 100] _ _ (Ok.refl _) (Or.inl ⟨w2.heap.size + 1, 0, 3, rfl, three_at _ _ _ _ _ (by simp)⟩)).mono ?_
  rintro e w3 ⟨rfl, hb3⟩
  rw [wk_widen]
  have ok23 : Ok w2 w3 := Ok.step (((Ok.refl _).alloc _).alloc _) hb3
  have r3 := Ok.row' ok23 r2
  have r4 : w3.heap[w2.heap.size]? = some (.cells #[.int .i64 1, .int .i64 6] 23) := Ok.row' hb3 (by repeat (first | (refine heap_at _ _ _ ?hx; case hx => (first | (simp; done) | (simp; omega))) | (refine heap_past _ _ _ ?hy ?_; case hy => (first | (simp; done) | (simp; omega))) | fail))
  obtain ⟨s0, s1, _, _⟩ := row_facts r3
  obtain ⟨t0, t1, _, _⟩ := row_facts r4
  have l3 := lt_row r3
  have l4 := lt_row r4
  have m0 : w1.heap.size < w3.heap.size + 1 := by omega
  have m1 : w2.heap.size < w3.heap.size + 1 := by omega
  have m2 : ¬ w1.heap.size = w3.heap.size := by omega
  have m3 : ¬ w2.heap.size = w3.heap.size := by omega
  go_wp2_with fail
  refine (phas_any 1 6 4 w3 _ ((Ok.refl _).alloc _)).mono ?_
  rintro e w4 ⟨rfl, hb4⟩
  rw [wk_has]
  have r5 := Ok.row' hb4 r3
  obtain ⟨u0, u1, _, _⟩ := row_facts r5
  go_wp2_with fail
  refine (pleq_any 11 22 0 22 w4 _ (Ok.refl _)).mono ?_
  rintro e w5 ⟨rfl, hb5⟩
  rw [wk_leq]
  go_wp2_with fail
  go_ret
  exact ⟨rfl, hok.step (Ok.step (Ok.step (Ok.step ok2 ok23) hb4) hb5)⟩
end Go.Proofs.Ytdbdgpcbhojcnaa
