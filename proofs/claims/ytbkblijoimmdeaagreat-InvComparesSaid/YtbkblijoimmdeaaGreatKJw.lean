import Derived.Shelf.Spec.BitsCarry
import Derived.Test.YtbkblijoimmdeaaGreatKJa
set_option linter.unusedVariables false
set_option linter.unusedSimpArgs false
set_option linter.unnecessarySimpa false
/- Jw -/
namespace Go.Proofs.YtbkblijoimmdeaaGreat
open Go.RowKit Go.Shelf
/-- How often a whole number has gone round. -/
def tW (z : Int) : Int := (z + 9223372036854775808) / 18446744073709551616
theorem tW_zero (z : Int) : (tW z == 0) = decide (In64 z) := by
  unfold tW In64
  by_cases h : (z + 9223372036854775808) / 18446744073709551616 = 0
  · rw [h, decide_eq_true (by omega)]; rfl
  · rw [decide_eq_false (by omega)]; simpa using h
theorem tW_eq (z : Int) : z = tW z * 18446744073709551616 + wrap64 z := by unfold tW wrap64; omega
theorem infoT : (Tryz.prog.info? 156).map (·.size) = some 2 := by kernel_rfl
def Wd (z : Int) : Prop := -85070591730234615865843651857942052864 ≤ z ∧ z ≤ 85070591730234615865843651857942052864
theorem halves_eq {z : Int} (hz : Wd z) : tW z = wrap64 (hiW z + loW z / 9223372036854775808) := by
  unfold Wd at hz; unfold tW hiW loW wrap64; omega
set_option maxHeartbeats 400000 in
theorem phalves_ex (h l z : Int) (w : World) (hz : Wd z) (e1 : h = hiW z) (e2 : l = loW z) :
    Calls Tryz.prog 195 #[.int .i64 h, .int .u64 l] w fun e w' => e = .returned (.agg #[.int .i64 (tW z), .int .i64 (wrap64 z)]) ∧ w' = w.alloc (.cells #[.int .i64 (tW z), .int .i64 (wrap64 z)] 156) := by
  have E1 : tW z = wrap64 (h + wrap64 (l / 9223372036854775808)) := by
    rw [halves_eq hz, e1, e2]; unfold hiW loW wrap64; omega
  have E2 : wrap64 z = wrap64 l := by rw [e2, wlo]
  rw [E1, E2]
  clear E1 E2 e1 e2 hz
  go_enter Tryz.func195, Tryz.ntmps195
  go_wp2
  (try simp only [Exit.inBlock, Exit.then]); refine bodyPost_ret (results_cell_row rfl _ _ (w.heap.size) 156 #[_, _] (0, 0) _ rfl (by repeat (first | (refine heap_at _ _ _ ?hx; case hx => (first | (simp; done) | (simp; omega))) | (refine heap_past _ _ _ ?hy ?_; case hy => (first | (simp; done) | (simp; omega))) | fail)) Tryz.underlying156 rfl infoT) rfl ?_
  exact ⟨rfl, rfl⟩
theorem Jadd64_law (x y : Int) (w : World) :
    (callFunc 87 #[.int .u64 (IntKind.u64.wrap x), .int .u64 (IntKind.u64.wrap y), .int .u64 0]).run Tryz.prog w =
      .ok (.value (.tuple #[.int .u64 ((IntKind.u64.wrap x + IntKind.u64.wrap y) % 18446744073709551616), .int .u64 ((IntKind.u64.wrap x + IntKind.u64.wrap y) / 18446744073709551616)])) w := by
  rw [run_callFunc_extern Tryz.func87 (by kernel_rfl) (by kernel_rfl) (by kernel_rfl) (e := add64Entry) (by kernel_rfl), run_add64 _ _ _ (by rw [u64w]; omega) (by rw [u64w]; omega) (by omega) (by omega)]
  simp only [Result.andThen, Int.add_zero]
def brw (a b : Int) : Int := if a < b then 1 else 0
theorem Jsub64_law (x y : Int) (w : World) :
    (callFunc 149 #[.int .u64 (IntKind.u64.wrap x), .int .u64 (IntKind.u64.wrap y), .int .u64 0]).run Tryz.prog w =
      .ok (.value (.tuple #[.int .u64 ((IntKind.u64.wrap x - IntKind.u64.wrap y) % 18446744073709551616), .int .u64 (brw (IntKind.u64.wrap x) (IntKind.u64.wrap y))])) w := by
  obtain ⟨a, ha⟩ := Int.eq_ofNat_of_zero_le (show 0 ≤ IntKind.u64.wrap x by rw [u64w]; omega)
  obtain ⟨b, hb⟩ := Int.eq_ofNat_of_zero_le (show 0 ≤ IntKind.u64.wrap y by rw [u64w]; omega)
  have ha1 : a < 18446744073709551616 := by rw [u64w] at ha; omega
  have hb1 : b < 18446744073709551616 := by rw [u64w] at hb; omega
  rw [ha, hb, run_callFunc_extern Tryz.func149 (by kernel_rfl) (by kernel_rfl) (by kernel_rfl) (e := sub64Entry) (by kernel_rfl)]
  rw [show (Value.int .u64 0) = .int .u64 ((0 : Nat) : Int) from rfl, run_sub64 a b 0 (by omega)]
  simp only [Result.andThen, Nat.add_zero]
  have e1 : (((a + 18446744073709551616 - b - 0) % 18446744073709551616 : Nat) : Int) = ((a : Int) - b) % 18446744073709551616 := by omega
  have e2 : ((if a < b then 1 else 0 : Nat) : Int) = brw a b := by unfold brw; split <;> split <;> omega
  rw [e1, e2]
theorem small_sub {x y : Int} (hx : In64 x) (hy : In64 y) : Wd (x - y) := by unfold In64 at *; unfold Wd; omega
theorem dif_hi {x y : Int} (hx : In64 x) (hy : In64 y) : wrap64 (wrap64 (x / 9223372036854775808 - y / 9223372036854775808) - wrap64 (brw (IntKind.u64.wrap x) (IntKind.u64.wrap y))) = hiW (x - y) := by
  have e1 : wrap64 (x / 9223372036854775808 - y / 9223372036854775808) = x / 9223372036854775808 - y / 9223372036854775808 := wrap64_id (by unfold In64 at *; omega)
  have e2 : wrap64 (brw (IntKind.u64.wrap x) (IntKind.u64.wrap y)) = brw (IntKind.u64.wrap x) (IntKind.u64.wrap y) := wrap64_id (by unfold brw In64; split <;> omega)
  have e3 : x / 9223372036854775808 - y / 9223372036854775808 - brw (IntKind.u64.wrap x) (IntKind.u64.wrap y) = hiW (x - y) := by
    unfold brw
    rw [u64w, u64w]; unfold hiW; unfold In64 at *; split <;> omega
  rw [e1, e2, e3]
  exact wrap64_id (by unfold In64 at *; unfold hiW; omega)
theorem dif_lo (x y : Int) : (IntKind.u64.wrap x - IntKind.u64.wrap y) % 18446744073709551616 = loW (x - y) := by
  rw [u64w, u64w]; unfold loW; omega
set_option maxHeartbeats 400000 in
theorem pdif_any (x y : Int) (hx : In64 x) (hy : In64 y) (w0 w : World) (hok : Ok w0 w) :
    Calls Tryz.prog 171 #[.int .i64 x, .int .i64 y] w fun e w' => e = .returned (.agg #[.int .i64 (tW (x - y)), .int .i64 (wrap64 (x - y))]) ∧ Ok w0 w' := by
  have HX : Hid (In64 x ∧ In64 y) := ⟨hx, hy⟩
  clear hx hy
  go_enter Tryz.func171, Tryz.ntmps171
  go_wp2_with (first | simp only [Jsub64_law] | (go_at_call 195; refine (phalves_ex _ _ (x - y) _ (small_sub HX.out.1 HX.out.2) (dif_hi HX.out.1 HX.out.2) (dif_lo x y)).mono ?_; rintro e w' ⟨rfl, rfl⟩) | fail)
  (try simp only [Exit.inBlock, Exit.then]); refine bodyPost_ret (results_cell_row rfl _ _ (w.heap.size) 156 #[_, _] (0, 0) _ rfl (by repeat (first | (refine heap_at _ _ _ ?hx; case hx => (first | (simp; done) | (simp; omega))) | (refine heap_past _ _ _ ?hy ?_; case hy => (first | (simp; done) | (simp; omega))) | fail)) Tryz.underlying156 rfl infoT) rfl ?_
  exact ⟨rfl, (by repeat (first | exact hok | refine Ok.alloc ?_ _ | refine Ok.draws ?_ _ | fail))⟩
end Go.Proofs.YtbkblijoimmdeaaGreat
