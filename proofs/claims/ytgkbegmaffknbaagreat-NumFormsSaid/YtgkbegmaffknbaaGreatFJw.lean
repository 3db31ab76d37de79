import Derived.Shelf.Spec.BitsCarry
import Derived.Test.YtgkbegmaffknbaaGreatFJa
set_option linter.unusedVariables false
set_option linter.unusedSimpArgs false
set_option linter.unnecessarySimpa false
/- Jw -/
namespace Go.Proofs.YtgkbegmaffknbaaGreat
open Go.RowKit Go.Shelf
/-- How often a whole number has gone round. -/
def tW (z : Int) : Int := (z + 9223372036854775808) / 18446744073709551616
theorem tW_zero (z : Int) : (tW z == 0) = decide (In64 z) := by
  unfold tW In64
  by_cases h : (z + 9223372036854775808) / 18446744073709551616 = 0
  · rw [h, decide_eq_true (by omega)]; rfl
  · rw [decide_eq_false (by omega)]; simpa using h
theorem tW_eq (z : Int) : z = tW z * 18446744073709551616 + wrap64 z := by unfold tW wrap64; omega
theorem infoT : (Tryz.prog.info? 157).map (·.size) = some 2 := by kernel_rfl
def Wd (z : Int) : Prop := -85070591730234615865843651857942052864 ≤ z ∧ z ≤ 85070591730234615865843651857942052864
theorem halves_eq {z : Int} (hz : Wd z) : tW z = wrap64 (hiW z + loW z / 9223372036854775808) := by
  unfold Wd at hz; unfold tW hiW loW wrap64; omega
set_option maxHeartbeats 400000 in
theorem phalves_ex (h l z : Int) (w : World) (hz : Wd z) (e1 : h = hiW z) (e2 : l = loW z) :
    Calls Tryz.prog 225 #[.int .i64 h, .int .u64 l] w fun e w' => e = .returned (.agg #[.int .i64 (tW z), .int .i64 (wrap64 z)]) ∧ w' = w.alloc (.cells #[.int .i64 (tW z), .int .i64 (wrap64 z)] 157) := by
  have E1 : tW z = wrap64 (h + wrap64 (l / 9223372036854775808)) := by
    rw [halves_eq hz, e1, e2]; unfold hiW loW wrap64; omega
  have E2 : wrap64 z = wrap64 l := by rw [e2, wlo]
  rw [E1, E2]
  clear E1 E2 e1 e2 hz
  go_enter Tryz.func225, Tryz.ntmps225
  go_wp2
  (try simp only [Exit.inBlock, Exit.then]); refine bodyPost_ret (results_cell_row rfl _ _ (w.heap.size) 157 #[_, _] (0, 0) _ rfl (by repeat (first | (refine heap_at _ _ _ ?hx; case hx => (first | (simp; done) | (simp; omega))) | (refine heap_past _ _ _ ?hy ?_; case hy => (first | (simp; done) | (simp; omega))) | fail)) Tryz.underlying157 rfl infoT) rfl ?_
  exact ⟨rfl, rfl⟩
theorem Jadd64_law (x y : Int) (w : World) :
    (callFunc 222 #[.int .u64 (IntKind.u64.wrap x), .int .u64 (IntKind.u64.wrap y), .int .u64 0]).run Tryz.prog w =
      .ok (.value (.tuple #[.int .u64 ((IntKind.u64.wrap x + IntKind.u64.wrap y) % 18446744073709551616), .int .u64 ((IntKind.u64.wrap x + IntKind.u64.wrap y) / 18446744073709551616)])) w := by
  rw [run_callFunc_extern Tryz.func222 (by kernel_rfl) (by kernel_rfl) (by kernel_rfl) (e := add64Entry) (by kernel_rfl), run_add64 _ _ _ (by rw [u64w]; omega) (by rw [u64w]; omega) (by omega) (by omega)]
  simp only [Result.andThen, Int.add_zero]
theorem small_add {x y : Int} (hx : In64 x) (hy : In64 y) : Wd (x + y) := by unfold In64 at *; unfold Wd; omega
theorem sum_hi {x y : Int} (hx : In64 x) (hy : In64 y) : wrap64 (wrap64 (x / 9223372036854775808 + y / 9223372036854775808) + wrap64 ((IntKind.u64.wrap x + IntKind.u64.wrap y) / 18446744073709551616)) = hiW (x + y) := by
  have e1 : wrap64 (x / 9223372036854775808 + y / 9223372036854775808) = x / 9223372036854775808 + y / 9223372036854775808 := wrap64_id (by unfold In64 at *; omega)
  have e2 : wrap64 ((IntKind.u64.wrap x + IntKind.u64.wrap y) / 18446744073709551616) = (IntKind.u64.wrap x + IntKind.u64.wrap y) / 18446744073709551616 := wrap64_id (by rw [u64w, u64w]; unfold In64; omega)
  have e3 : x / 9223372036854775808 + y / 9223372036854775808 + (IntKind.u64.wrap x + IntKind.u64.wrap y) / 18446744073709551616 = hiW (x + y) := by
    rw [u64w, u64w]; unfold hiW; unfold In64 at *; omega
  rw [e1, e2, e3]
  exact wrap64_id (by unfold In64 at *; unfold hiW; omega)
theorem sum_lo (x y : Int) : (IntKind.u64.wrap x + IntKind.u64.wrap y) % 18446744073709551616 = loW (x + y) := by
  rw [u64w, u64w]; unfold loW; omega
set_option maxHeartbeats 400000 in
theorem psum_any (x y : Int) (hx : In64 x) (hy : In64 y) (w0 w : World) (hok : Ok w0 w) :
    Calls Tryz.prog 175 #[.int .i64 x, .int .i64 y] w fun e w' => e = .returned (.agg #[.int .i64 (tW (x + y)), .int .i64 (wrap64 (x + y))]) ∧ Ok w0 w' := by
  have HX : Hid (In64 x ∧ In64 y) := ⟨hx, hy⟩
  clear hx hy
  go_enter Tryz.func175, Tryz.ntmps175
  go_wp2_with (first | simp only [Jadd64_law] | (go_at_call 225; refine (phalves_ex _ _ (x + y) _ (small_add HX.out.1 HX.out.2) (sum_hi HX.out.1 HX.out.2) (sum_lo x y)).mono ?_; rintro e w' ⟨rfl, rfl⟩) | fail)
  (try simp only [Exit.inBlock, Exit.then]); refine bodyPost_ret (results_cell_row rfl _ _ (w.heap.size) 157 #[_, _] (0, 0) _ rfl (by repeat (first | (refine heap_at _ _ _ ?hx; case hx => (first | (simp; done) | (simp; omega))) | (refine heap_past _ _ _ ?hy ?_; case hy => (first | (simp; done) | (simp; omega))) | fail)) Tryz.underlying157 rfl infoT) rfl ?_
  exact ⟨rfl, (by repeat (first | exact hok | refine Ok.alloc ?_ _ | refine Ok.draws ?_ _ | fail))⟩
end Go.Proofs.YtgkbegmaffknbaaGreat
