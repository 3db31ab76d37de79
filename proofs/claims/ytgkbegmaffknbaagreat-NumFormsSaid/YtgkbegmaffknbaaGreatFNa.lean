import Derived.Test.YtgkbegmaffknbaaGreatFCdvm
import Derived.Test.YtgkbegmaffknbaaGreatFChd
import Derived.Test.YtgkbegmaffknbaaGreatFIdiv
import Derived.Test.YtgkbegmaffknbaaGreatFIdv
import Derived.Test.YtgkbegmaffknbaaGreatFIwid
import Derived.Test.YtgkbegmaffknbaaGreatFJs
import Derived.Test.YtgkbegmaffknbaaGreatFNap
import Derived.Test.YtgkbegmaffknbaaGreatFNm
set_option linter.unusedVariables false
set_option linter.unusedSimpArgs false
set_option linter.unnecessarySimpa false
/- Na -/
namespace Go.Proofs.YtgkbegmaffknbaaGreat
open Go.RowKit
theorem infoO : (Tryz.prog.info? 79).map (·.size) = some 5 := by kernel_rfl

theorem nidx0 (w : World) : (Instr.index 110 (.agg #[.int .i64 1, .bool true, .bool false, .func (.func 105) #[] #[], .func (.func 106) #[] #[], .int .i64 3, .bool false, .bool false, .func (.func 107) #[] #[], .func (.func 108) #[] #[], .int .i64 4, .bool false, .bool false, .func (.func 109) #[] #[], .func (.func 110) #[] #[], .int .i64 5, .bool false, .bool false, .func (.func 111) #[] #[], .func (.func 112) #[] #[], .int .i64 6, .bool false, .bool true, .func (.func 113) #[] #[], .func (.func 114) #[] #[], .int .i64 7, .bool false, .bool true, .func (.func 115) #[] #[], .func (.func 116) #[] #[]]) (.int .i64 0)).run Tryz.prog w = .ok (.agg #[.int .i64 1, .bool true, .bool false, .func (.func 105) #[] #[], .func (.func 106) #[] #[]]) w := by kernel_rfl
theorem nidx1 (w : World) : (Instr.index 110 (.agg #[.int .i64 1, .bool true, .bool false, .func (.func 105) #[] #[], .func (.func 106) #[] #[], .int .i64 3, .bool false, .bool false, .func (.func 107) #[] #[], .func (.func 108) #[] #[], .int .i64 4, .bool false, .bool false, .func (.func 109) #[] #[], .func (.func 110) #[] #[], .int .i64 5, .bool false, .bool false, .func (.func 111) #[] #[], .func (.func 112) #[] #[], .int .i64 6, .bool false, .bool true, .func (.func 113) #[] #[], .func (.func 114) #[] #[], .int .i64 7, .bool false, .bool true, .func (.func 115) #[] #[], .func (.func 116) #[] #[]]) (.int .i64 1)).run Tryz.prog w = .ok (.agg #[.int .i64 3, .bool false, .bool false, .func (.func 107) #[] #[], .func (.func 108) #[] #[]]) w := by kernel_rfl
theorem nidx2 (w : World) : (Instr.index 110 (.agg #[.int .i64 1, .bool true, .bool false, .func (.func 105) #[] #[], .func (.func 106) #[] #[], .int .i64 3, .bool false, .bool false, .func (.func 107) #[] #[], .func (.func 108) #[] #[], .int .i64 4, .bool false, .bool false, .func (.func 109) #[] #[], .func (.func 110) #[] #[], .int .i64 5, .bool false, .bool false, .func (.func 111) #[] #[], .func (.func 112) #[] #[], .int .i64 6, .bool false, .bool true, .func (.func 113) #[] #[], .func (.func 114) #[] #[], .int .i64 7, .bool false, .bool true, .func (.func 115) #[] #[], .func (.func 116) #[] #[]]) (.int .i64 2)).run Tryz.prog w = .ok (.agg #[.int .i64 4, .bool false, .bool false, .func (.func 109) #[] #[], .func (.func 110) #[] #[]]) w := by kernel_rfl
theorem nidx3 (w : World) : (Instr.index 110 (.agg #[.int .i64 1, .bool true, .bool false, .func (.func 105) #[] #[], .func (.func 106) #[] #[], .int .i64 3, .bool false, .bool false, .func (.func 107) #[] #[], .func (.func 108) #[] #[], .int .i64 4, .bool false, .bool false, .func (.func 109) #[] #[], .func (.func 110) #[] #[], .int .i64 5, .bool false, .bool false, .func (.func 111) #[] #[], .func (.func 112) #[] #[], .int .i64 6, .bool false, .bool true, .func (.func 113) #[] #[], .func (.func 114) #[] #[], .int .i64 7, .bool false, .bool true, .func (.func 115) #[] #[], .func (.func 116) #[] #[]]) (.int .i64 3)).run Tryz.prog w = .ok (.agg #[.int .i64 5, .bool false, .bool false, .func (.func 111) #[] #[], .func (.func 112) #[] #[]]) w := by kernel_rfl
theorem nidx4 (w : World) : (Instr.index 110 (.agg #[.int .i64 1, .bool true, .bool false, .func (.func 105) #[] #[], .func (.func 106) #[] #[], .int .i64 3, .bool false, .bool false, .func (.func 107) #[] #[], .func (.func 108) #[] #[], .int .i64 4, .bool false, .bool false, .func (.func 109) #[] #[], .func (.func 110) #[] #[], .int .i64 5, .bool false, .bool false, .func (.func 111) #[] #[], .func (.func 112) #[] #[], .int .i64 6, .bool false, .bool true, .func (.func 113) #[] #[], .func (.func 114) #[] #[], .int .i64 7, .bool false, .bool true, .func (.func 115) #[] #[], .func (.func 116) #[] #[]]) (.int .i64 4)).run Tryz.prog w = .ok (.agg #[.int .i64 6, .bool false, .bool true, .func (.func 113) #[] #[], .func (.func 114) #[] #[]]) w := by kernel_rfl
theorem nidx5 (w : World) : (Instr.index 110 (.agg #[.int .i64 1, .bool true, .bool false, .func (.func 105) #[] #[], .func (.func 106) #[] #[], .int .i64 3, .bool false, .bool false, .func (.func 107) #[] #[], .func (.func 108) #[] #[], .int .i64 4, .bool false, .bool false, .func (.func 109) #[] #[], .func (.func 110) #[] #[], .int .i64 5, .bool false, .bool false, .func (.func 111) #[] #[], .func (.func 112) #[] #[], .int .i64 6, .bool false, .bool true, .func (.func 113) #[] #[], .func (.func 114) #[] #[], .int .i64 7, .bool false, .bool true, .func (.func 115) #[] #[], .func (.func 116) #[] #[]]) (.int .i64 5)).run Tryz.prog w = .ok (.agg #[.int .i64 7, .bool false, .bool true, .func (.func 115) #[] #[], .func (.func 116) #[] #[]]) w := by kernel_rfl
theorem run_store_fun (w : World) (a : Addr) (f : Fn) (x y : Array Value) (m : Mode) : (store a (.func f x y) m).run Tryz.prog w = stored Tryz.prog w a (.func f x y) m := run_store _ w a _ m rfl
attribute [local go_sem] run_store_fun
attribute [local go_sem] nidx0 nidx1 nidx2 nidx3 nidx4 nidx5
set_option maxRecDepth 100000 in
set_option maxHeartbeats 2000000 in
theorem find_add (w0 w : World) (hok : Ok w0 w) :
    Calls Tryz.prog 54 #[.int .i64 3] w fun e w' => e = .returned (.tuple #[.agg #[.int .i64 3, .bool false, .bool false, .func (.func 107) #[] #[], .func (.func 108) #[] #[]], .bool true]) ∧ Ok w0 w' := by
  have hle := hok.le
  go_enter Tryz.func54, Tryz.ntmps54
  go_wp2_with fail
  obtain ⟨W, hW⟩ : ∃ W, W = (w).alloc (.cells #[.int .i64 0, .bool false, .bool false, .nilFunc, .nilFunc] 79) := ⟨_, rfl⟩
  have rz : Hid (W.heap[w.heap.size]? = some (.cells #[.int .i64 0, .bool false, .bool false, .nilFunc, .nilFunc] 79)) := by unfold Hid; rw [hW]; exact (by repeat (first | (refine heap_at _ _ _ ?hx; case hx => (first | (simp; done) | (simp; omega))) | (refine heap_past _ _ _ ?hy ?_; case hy => (first | (simp; done) | (simp; omega))) | fail))
  have HW : Hid (Ok w0 W) := by unfold Hid; rw [hW]; exact (by repeat (first | exact hok | refine Ok.alloc ?_ _ | refine Ok.draws ?_ _ | fail))
  rw [← hW]
  clear hW
  obtain ⟨gz, egz⟩ : ∃ g, g = w.heap.size := ⟨_, rfl⟩
  rw [← egz] at rz ⊢
  have lgz : w0.heap.size ≤ gz := by omega
  clear egz
  go_loopw [19] (fun a wr => ∃ k : Nat, k ≤ 1 ∧ a = .int .i64 (k : Int) ∧ Hid (Ok W wr)) (fun a _ => (7 - intOf a).toNat)
  case atStart => exact ⟨0, by omega, rfl, Ok.refl _⟩
  case round =>
    obtain ⟨k, hk, rfl, HK⟩ := hrel
    have hr : Hid _ := Ok.row' HK.out rz.out
    have hz := lt_row hr.out
    have nz1 : ¬ gz = wr.heap.size := by omega
    have nz2 : ¬ wr.heap.size = gz := by omega
    obtain ⟨k0, k1, k2, k3, k4, k5, k6, k7, k8, k9⟩ := row5_facts hr.out
    rcases (show k = 0 ∨ k = 1 by omega) with rfl | rfl
    · go_wp2_with fail
      go_roundw
      case rel => exact ⟨1, by omega, rfl, HK.out.alloc _⟩
      case measure => simp [intOf]
    · go_wp2_with fail
      (try simp only [Exit.inBlock, Exit.then]); refine bodyPost_ret (results_iv rfl _ _ (gz) 79 #[_, _, _, _, _] (0, 0) _ rfl (heap_past _ _ _ (lt_row (row_set5 hr.out _ _ _ _ _)) (row_set5 hr.out _ _ _ _ _)) Tryz.underlying79 rfl infoO) rfl ?_
      exact ⟨rfl, Ok.alloc (Ok.set (Ok.set (Ok.set (Ok.set (Ok.set (HW.out.step HK.out) (show w0.heap.size ≤ gz by omega) _) (show w0.heap.size ≤ gz by omega) _) (show w0.heap.size ≤ gz by omega) _) (show w0.heap.size ≤ gz by omega) _) (show w0.heap.size ≤ gz by omega) _) _⟩
end Go.Proofs.YtgkbegmaffknbaaGreat
