import Derived.Test.YtbclkkpddomoiaaGreatIref
set_option linter.unusedVariables false
set_option linter.unusedSimpArgs false
set_option linter.unnecessarySimpa false
/- The document's whole numbers of 128 bits (winnowref11): contracts. -/
namespace Go.Proofs.YtbclkkpddomoiaaGreat
open Go.RowKit
def hiW (z : Int) : Int := z / 18446744073709551616
def loW (z : Int) : Int := z % 18446744073709551616
theorem infoW : (Tryz.prog.info? 116).map (·.size) = some 2 := by kernel_rfl
theorem retw {a b z : Int} (h1 : hiW z = a) (h2 : loW z = b) : Ending.returned (.agg #[.int .i64 a, .int .u64 b]) = .returned (.agg #[.int .i64 (hiW z), .int .u64 (loW z)]) := by rw [h1, h2]
def Small (z : Int) : Prop := -85070591730234615865843651857942052864 ≤ z ∧ z < 85070591730234615865843651857942052864
set_option maxHeartbeats 400000 in
theorem wof_any (v : Int) (hv : In64 v) (w : World) :
    Calls Tryz.prog 133 #[.int .i64 v] w fun e w' => e = .returned (.agg #[.int .i64 (hiW v), .int .u64 (loW v)]) ∧ w' = w.alloc (.cells #[.int .i64 (hiW v), .int .u64 (loW v)] 116) := by
  have E : Hid (v / 9223372036854775808 = hiW v ∧ IntKind.u64.wrap v = loW v) := by
    unfold Hid In64 at *; rw [u64w]; unfold hiW loW; omega
  clear hv
  go_enter Tryz.func133, Tryz.ntmps133
  go_wp2
  (try simp only [Exit.inBlock, Exit.then]); refine bodyPost_ret (results_cell_row rfl _ _ (w.heap.size) 116 #[_, _] (0, 0) _ rfl (by repeat (first | (refine heap_at _ _ _ ?hx; case hx => (first | (simp; done) | (simp; omega))) | (refine heap_past _ _ _ ?hy ?_; case hy => (first | (simp; done) | (simp; omega))) | fail)) Tryz.underlying116 rfl infoW) rfl ?_
  rw [E.out.1, E.out.2]
  exact ⟨rfl, rfl⟩
theorem plus_c {a b : Int} (ha : Small a) (hb : Small b) (h : IntKind.u64.wrap (loW a + loW b) < loW a) : hiW (a + b) = wrap64 (wrap64 (hiW a + hiW b) + 1) ∧ loW (a + b) = IntKind.u64.wrap (loW a + loW b) := by
  simp only [u64w] at *; unfold hiW loW Small wrap64 at *; omega
theorem plus_n {a b : Int} (ha : Small a) (hb : Small b) (h : loW a ≤ IntKind.u64.wrap (loW a + loW b)) : hiW (a + b) = wrap64 (hiW a + hiW b) ∧ loW (a + b) = IntKind.u64.wrap (loW a + loW b) := by
  simp only [u64w] at *; unfold hiW loW Small wrap64 at *; omega
theorem minus_c {a b : Int} (ha : Small a) (hb : Small b) (h : loW a < loW b) : hiW (a - b) = wrap64 (wrap64 (hiW a - hiW b) - 1) ∧ loW (a - b) = IntKind.u64.wrap (loW a - loW b) := by
  simp only [u64w] at *; unfold hiW loW Small wrap64 at *; omega
theorem minus_n {a b : Int} (ha : Small a) (hb : Small b) (h : loW b ≤ loW a) : hiW (a - b) = wrap64 (hiW a - hiW b) ∧ loW (a - b) = IntKind.u64.wrap (loW a - loW b) := by
  simp only [u64w] at *; unfold hiW loW Small wrap64 at *; omega
set_option maxHeartbeats 400000 in
theorem wplus_any (a b : Int) (w0 w : World) (hok : Ok w0 w) (ha : Small a) (hb : Small b) :
    Calls Tryz.prog 135 #[.agg #[.int .i64 (hiW a), .int .u64 (loW a)], .agg #[.int .i64 (hiW b), .int .u64 (loW b)]] w fun e w' => e = .returned (.agg #[.int .i64 (hiW (a + b)), .int .u64 (loW (a + b))]) ∧ Ok w0 w' := by
  go_enter Tryz.func135, Tryz.ntmps135
  go_wp2
  · rename_i h0
    (try simp only [Exit.inBlock, Exit.then]); refine bodyPost_ret (results_cell_row rfl _ _ (w.heap.size + 2) 116 #[_, _] (0, 0) _ rfl (by repeat (first | (refine heap_at _ _ _ ?hx; case hx => (first | (simp; done) | (simp; omega))) | (refine heap_past _ _ _ ?hy ?_; case hy => (first | (simp; done) | (simp; omega))) | fail)) Tryz.underlying116 rfl infoW) rfl ?_
    exact ⟨retw (plus_c ha hb h0).1 (plus_c ha hb h0).2, (by repeat (first | exact hok | refine Ok.alloc ?_ _ | refine Ok.draws ?_ _ | fail))⟩
  · rename_i h0
    (try simp only [Exit.inBlock, Exit.then]); refine bodyPost_ret (results_cell_row rfl _ _ (w.heap.size + 2) 116 #[_, _] (0, 0) _ rfl (by repeat (first | (refine heap_at _ _ _ ?hx; case hx => (first | (simp; done) | (simp; omega))) | (refine heap_past _ _ _ ?hy ?_; case hy => (first | (simp; done) | (simp; omega))) | fail)) Tryz.underlying116 rfl infoW) rfl ?_
    exact ⟨retw (plus_n ha hb h0).1 (plus_n ha hb h0).2, (by repeat (first | exact hok | refine Ok.alloc ?_ _ | refine Ok.draws ?_ _ | fail))⟩
set_option maxHeartbeats 400000 in
theorem wminus_any (a b : Int) (w0 w : World) (hok : Ok w0 w) (ha : Small a) (hb : Small b) :
    Calls Tryz.prog 132 #[.agg #[.int .i64 (hiW a), .int .u64 (loW a)], .agg #[.int .i64 (hiW b), .int .u64 (loW b)]] w fun e w' => e = .returned (.agg #[.int .i64 (hiW (a - b)), .int .u64 (loW (a - b))]) ∧ Ok w0 w' := by
  go_enter Tryz.func132, Tryz.ntmps132
  go_wp2
  · rename_i h0
    (try simp only [Exit.inBlock, Exit.then]); refine bodyPost_ret (results_cell_row rfl _ _ (w.heap.size + 2) 116 #[_, _] (0, 0) _ rfl (by repeat (first | (refine heap_at _ _ _ ?hx; case hx => (first | (simp; done) | (simp; omega))) | (refine heap_past _ _ _ ?hy ?_; case hy => (first | (simp; done) | (simp; omega))) | fail)) Tryz.underlying116 rfl infoW) rfl ?_
    exact ⟨retw (minus_c ha hb h0).1 (minus_c ha hb h0).2, (by repeat (first | exact hok | refine Ok.alloc ?_ _ | refine Ok.draws ?_ _ | fail))⟩
  · rename_i h0
    (try simp only [Exit.inBlock, Exit.then]); refine bodyPost_ret (results_cell_row rfl _ _ (w.heap.size + 2) 116 #[_, _] (0, 0) _ rfl (by repeat (first | (refine heap_at _ _ _ ?hx; case hx => (first | (simp; done) | (simp; omega))) | (refine heap_past _ _ _ ?hy ?_; case hy => (first | (simp; done) | (simp; omega))) | fail)) Tryz.underlying116 rfl infoW) rfl ?_
    exact ⟨retw (minus_n ha hb h0).1 (minus_n ha hb h0).2, (by repeat (first | exact hok | refine Ok.alloc ?_ _ | refine Ok.draws ?_ _ | fail))⟩
set_option maxHeartbeats 400000 in
theorem wless_any (a b : Int) (w0 w : World) (hok : Ok w0 w) :
    Calls Tryz.prog 138 #[.agg #[.int .i64 (hiW a), .int .u64 (loW a)], .agg #[.int .i64 (hiW b), .int .u64 (loW b)]] w fun e w' => e = .returned (.bool (decide (a < b))) ∧ Ok w0 w' := by
  go_enter Tryz.func138, Tryz.ntmps138
  go_wp2
  all_goals go_ret
  all_goals refine ⟨retb ?_, (by repeat (first | exact hok | refine Ok.alloc ?_ _ | refine Ok.draws ?_ _ | fail))⟩
  all_goals (try unfold hiW at *)
  all_goals (try unfold loW at *)
  all_goals first
    | (rw [eq_comm, decide_eq_true_iff]; omega)
    | (refine decide_eq_decide.2 ?_; omega)
    | (rw [eq_comm, decide_eq_false_iff_not]; omega)
theorem fits_eq (a : Int) : (hiW a == wrap64 (loW a) / 9223372036854775808) = decide (In64 a) := by
  have : hiW a = wrap64 (loW a) / 9223372036854775808 ↔ In64 a := by unfold hiW loW wrap64 In64; omega
  by_cases h : In64 a
  · rw [decide_eq_true h, beq_iff_eq]; exact this.2 h
  · rw [decide_eq_false h, beq_eq_false_iff_ne]; exact fun e => h (this.1 e)
set_option maxHeartbeats 400000 in
theorem wfits_any (a : Int) (w0 w : World) (hok : Ok w0 w) :
    Calls Tryz.prog 139 #[.agg #[.int .i64 (hiW a), .int .u64 (loW a)]] w fun e w' => e = .returned (.bool (decide (In64 a))) ∧ Ok w0 w' := by
  have E : Hid _ := fits_eq a
  go_enter Tryz.func139, Tryz.ntmps139
  go_wp2
  go_ret
  exact ⟨retb E.out, (by repeat (first | exact hok | refine Ok.alloc ?_ _ | refine Ok.draws ?_ _ | fail))⟩
end Go.Proofs.YtbclkkpddomoiaaGreat
