import Derived.Test.YtbclkkpddomoiaaGreatNm2
import Derived.Test.YtbclkkpddomoiaaGreatJad
import Derived.Deep.RegionHeld3
set_option linter.unusedVariables false
set_option linter.unusedSimpArgs false
set_option linter.unnecessarySimpa false
/- Several texts, laid together. -/
namespace Go.Proofs.YtbclkkpddomoiaaGreat
section
open Go.RowKit
theorem infoO : (Tryz.prog.info? 72).map (·.size) = some 5 := by kernel_rfl

theorem nidx0 (w : World) : (Instr.index 96 (.agg #[.int .i64 1, .bool true, .bool false, .func (.func 97) #[] #[], .func (.func 98) #[] #[], .int .i64 3, .bool false, .bool false, .func (.func 99) #[] #[], .func (.func 100) #[] #[], .int .i64 4, .bool false, .bool false, .func (.func 101) #[] #[], .func (.func 102) #[] #[], .int .i64 5, .bool false, .bool false, .func (.func 103) #[] #[], .func (.func 104) #[] #[], .int .i64 6, .bool false, .bool true, .func (.func 105) #[] #[], .func (.func 106) #[] #[], .int .i64 7, .bool false, .bool true, .func (.func 107) #[] #[], .func (.func 108) #[] #[]]) (.int .i64 0)).run Tryz.prog w = .ok (.agg #[.int .i64 1, .bool true, .bool false, .func (.func 97) #[] #[], .func (.func 98) #[] #[]]) w := by kernel_rfl
theorem nidx1 (w : World) : (Instr.index 96 (.agg #[.int .i64 1, .bool true, .bool false, .func (.func 97) #[] #[], .func (.func 98) #[] #[], .int .i64 3, .bool false, .bool false, .func (.func 99) #[] #[], .func (.func 100) #[] #[], .int .i64 4, .bool false, .bool false, .func (.func 101) #[] #[], .func (.func 102) #[] #[], .int .i64 5, .bool false, .bool false, .func (.func 103) #[] #[], .func (.func 104) #[] #[], .int .i64 6, .bool false, .bool true, .func (.func 105) #[] #[], .func (.func 106) #[] #[], .int .i64 7, .bool false, .bool true, .func (.func 107) #[] #[], .func (.func 108) #[] #[]]) (.int .i64 1)).run Tryz.prog w = .ok (.agg #[.int .i64 3, .bool false, .bool false, .func (.func 99) #[] #[], .func (.func 100) #[] #[]]) w := by kernel_rfl
theorem nidx2 (w : World) : (Instr.index 96 (.agg #[.int .i64 1, .bool true, .bool false, .func (.func 97) #[] #[], .func (.func 98) #[] #[], .int .i64 3, .bool false, .bool false, .func (.func 99) #[] #[], .func (.func 100) #[] #[], .int .i64 4, .bool false, .bool false, .func (.func 101) #[] #[], .func (.func 102) #[] #[], .int .i64 5, .bool false, .bool false, .func (.func 103) #[] #[], .func (.func 104) #[] #[], .int .i64 6, .bool false, .bool true, .func (.func 105) #[] #[], .func (.func 106) #[] #[], .int .i64 7, .bool false, .bool true, .func (.func 107) #[] #[], .func (.func 108) #[] #[]]) (.int .i64 2)).run Tryz.prog w = .ok (.agg #[.int .i64 4, .bool false, .bool false, .func (.func 101) #[] #[], .func (.func 102) #[] #[]]) w := by kernel_rfl
theorem nidx3 (w : World) : (Instr.index 96 (.agg #[.int .i64 1, .bool true, .bool false, .func (.func 97) #[] #[], .func (.func 98) #[] #[], .int .i64 3, .bool false, .bool false, .func (.func 99) #[] #[], .func (.func 100) #[] #[], .int .i64 4, .bool false, .bool false, .func (.func 101) #[] #[], .func (.func 102) #[] #[], .int .i64 5, .bool false, .bool false, .func (.func 103) #[] #[], .func (.func 104) #[] #[], .int .i64 6, .bool false, .bool true, .func (.func 105) #[] #[], .func (.func 106) #[] #[], .int .i64 7, .bool false, .bool true, .func (.func 107) #[] #[], .func (.func 108) #[] #[]]) (.int .i64 3)).run Tryz.prog w = .ok (.agg #[.int .i64 5, .bool false, .bool false, .func (.func 103) #[] #[], .func (.func 104) #[] #[]]) w := by kernel_rfl
theorem nidx4 (w : World) : (Instr.index 96 (.agg #[.int .i64 1, .bool true, .bool false, .func (.func 97) #[] #[], .func (.func 98) #[] #[], .int .i64 3, .bool false, .bool false, .func (.func 99) #[] #[], .func (.func 100) #[] #[], .int .i64 4, .bool false, .bool false, .func (.func 101) #[] #[], .func (.func 102) #[] #[], .int .i64 5, .bool false, .bool false, .func (.func 103) #[] #[], .func (.func 104) #[] #[], .int .i64 6, .bool false, .bool true, .func (.func 105) #[] #[], .func (.func 106) #[] #[], .int .i64 7, .bool false, .bool true, .func (.func 107) #[] #[], .func (.func 108) #[] #[]]) (.int .i64 4)).run Tryz.prog w = .ok (.agg #[.int .i64 6, .bool false, .bool true, .func (.func 105) #[] #[], .func (.func 106) #[] #[]]) w := by kernel_rfl
theorem nidx5 (w : World) : (Instr.index 96 (.agg #[.int .i64 1, .bool true, .bool false, .func (.func 97) #[] #[], .func (.func 98) #[] #[], .int .i64 3, .bool false, .bool false, .func (.func 99) #[] #[], .func (.func 100) #[] #[], .int .i64 4, .bool false, .bool false, .func (.func 101) #[] #[], .func (.func 102) #[] #[], .int .i64 5, .bool false, .bool false, .func (.func 103) #[] #[], .func (.func 104) #[] #[], .int .i64 6, .bool false, .bool true, .func (.func 105) #[] #[], .func (.func 106) #[] #[], .int .i64 7, .bool false, .bool true, .func (.func 107) #[] #[], .func (.func 108) #[] #[]]) (.int .i64 5)).run Tryz.prog w = .ok (.agg #[.int .i64 7, .bool false, .bool true, .func (.func 107) #[] #[], .func (.func 108) #[] #[]]) w := by kernel_rfl
theorem run_store_fun (w : World) (a : Addr) (f : Fn) (x y : Array Value) (m : Mode) : (store a (.func f x y) m).run Tryz.prog w = stored Tryz.prog w a (.func f x y) m := run_store _ w a _ m rfl
attribute [local go_sem] run_store_fun
attribute [local go_sem] nidx0 nidx1 nidx2 nidx3 nidx4 nidx5
set_option maxRecDepth 100000 in
set_option maxHeartbeats 2000000 in
theorem find_neg (w0 w : World) (hok : Ok w0 w) :
    Calls Tryz.prog 50 #[.int .i64 1] w fun e w' => e = .returned (.tuple #[.agg #[.int .i64 1, .bool true, .bool false, .func (.func 97) #[] #[], .func (.func 98) #[] #[]], .bool true]) ∧ Ok w0 w' := by
  have hle := hok.le
  go_enter Tryz.func50, Tryz.ntmps50
  go_wp2_with fail
  obtain ⟨W, hW⟩ : ∃ W, W = (w).alloc (.cells #[.int .i64 0, .bool false, .bool false, .nilFunc, .nilFunc] 72) := ⟨_, rfl⟩
  have rz : Hid (W.heap[w.heap.size]? = some (.cells #[.int .i64 0, .bool false, .bool false, .nilFunc, .nilFunc] 72)) := by unfold Hid; rw [hW]; exact (by repeat (first | (refine heap_at _ _ _ ?hx; case hx => (first | (simp; done) | (simp; omega))) | (refine heap_past _ _ _ ?hy ?_; case hy => (first | (simp; done) | (simp; omega))) | fail))
  have HW : Hid (Ok w0 W) := by unfold Hid; rw [hW]; exact (by repeat (first | exact hok | refine Ok.alloc ?_ _ | refine Ok.draws ?_ _ | fail))
  rw [← hW]
  clear hW
  obtain ⟨gz, egz⟩ : ∃ g, g = w.heap.size := ⟨_, rfl⟩
  rw [← egz] at rz ⊢
  have lgz : w0.heap.size ≤ gz := by omega
  clear egz
  go_loopw [19] (fun a wr => ∃ k : Nat, k ≤ 0 ∧ a = .int .i64 (k : Int) ∧ Hid (Ok W wr)) (fun a _ => (7 - intOf a).toNat)
  case atStart => exact ⟨0, by omega, rfl, Ok.refl _⟩
  case round =>
    obtain ⟨k, hk, rfl, HK⟩ := hrel
    have hr : Hid _ := Ok.row' HK.out rz.out
    have hz := lt_row hr.out
    have nz1 : ¬ gz = wr.heap.size := by omega
    have nz2 : ¬ wr.heap.size = gz := by omega
    obtain ⟨k0, k1, k2, k3, k4, k5, k6, k7, k8, k9⟩ := row5_facts hr.out
    rcases (show k = 0 by omega) with rfl
    · go_wp2_with fail
      (try simp only [Exit.inBlock, Exit.then]); refine bodyPost_ret (results_iv rfl _ _ (gz) 72 #[_, _, _, _, _] (0, 0) _ rfl (heap_past _ _ _ (lt_row (row_set5 hr.out _ _ _ _ _)) (row_set5 hr.out _ _ _ _ _)) Tryz.underlying72 rfl infoO) rfl ?_
      exact ⟨rfl, Ok.alloc (Ok.set (Ok.set (Ok.set (Ok.set (Ok.set (HW.out.step HK.out) (show w0.heap.size ≤ gz by omega) _) (show w0.heap.size ≤ gz by omega) _) (show w0.heap.size ≤ gz by omega) _) (show w0.heap.size ≤ gz by omega) _) (show w0.heap.size ≤ gz by omega) _) _⟩
set_option maxRecDepth 100000 in
set_option maxHeartbeats 2000000 in
theorem find_add (w0 w : World) (hok : Ok w0 w) :
    Calls Tryz.prog 50 #[.int .i64 3] w fun e w' => e = .returned (.tuple #[.agg #[.int .i64 3, .bool false, .bool false, .func (.func 99) #[] #[], .func (.func 100) #[] #[]], .bool true]) ∧ Ok w0 w' := by
  have hle := hok.le
  go_enter Tryz.func50, Tryz.ntmps50
  go_wp2_with fail
  obtain ⟨W, hW⟩ : ∃ W, W = (w).alloc (.cells #[.int .i64 0, .bool false, .bool false, .nilFunc, .nilFunc] 72) := ⟨_, rfl⟩
  have rz : Hid (W.heap[w.heap.size]? = some (.cells #[.int .i64 0, .bool false, .bool false, .nilFunc, .nilFunc] 72)) := by unfold Hid; rw [hW]; exact (by repeat (first | (refine heap_at _ _ _ ?hx; case hx => (first | (simp; done) | (simp; omega))) | (refine heap_past _ _ _ ?hy ?_; case hy => (first | (simp; done) | (simp; omega))) | fail))
  have HW : Hid (Ok w0 W) := by unfold Hid; rw [hW]; exact (by repeat (first | exact hok | refine Ok.alloc ?_ _ | refine Ok.draws ?_ _ | fail))
  rw [← hW]
  clear hW
  obtain ⟨gz, egz⟩ : ∃ g, g = w.heap.size := ⟨_, rfl⟩
  rw [← egz] at rz ⊢
  have lgz : w0.heap.size ≤ gz := by omega
  clear egz
  go_loopw [19] (fun a wr => ∃ k : Nat, k ≤ 1 ∧ a = .int .i64 (k : Int) ∧ Hid (Ok W wr)) (fun a _ => (7 - intOf a).toNat)
  case atStart => exact ⟨0, by omega, rfl, Ok.refl _⟩
  case round =>
    obtain ⟨k, hk, rfl, HK⟩ := hrel
    have hr : Hid _ := Ok.row' HK.out rz.out
    have hz := lt_row hr.out
    have nz1 : ¬ gz = wr.heap.size := by omega
    have nz2 : ¬ wr.heap.size = gz := by omega
    obtain ⟨k0, k1, k2, k3, k4, k5, k6, k7, k8, k9⟩ := row5_facts hr.out
    rcases (show k = 0 ∨ k = 1 by omega) with rfl | rfl
    · go_wp2_with fail
      go_roundw
      case rel => exact ⟨1, by omega, rfl, HK.out.alloc _⟩
      case measure => simp [intOf]
    · go_wp2_with fail
      (try simp only [Exit.inBlock, Exit.then]); refine bodyPost_ret (results_iv rfl _ _ (gz) 72 #[_, _, _, _, _] (0, 0) _ rfl (heap_past _ _ _ (lt_row (row_set5 hr.out _ _ _ _ _)) (row_set5 hr.out _ _ _ _ _)) Tryz.underlying72 rfl infoO) rfl ?_
      exact ⟨rfl, Ok.alloc (Ok.set (Ok.set (Ok.set (Ok.set (Ok.set (HW.out.step HK.out) (show w0.heap.size ≤ gz by omega) _) (show w0.heap.size ≤ gz by omega) _) (show w0.heap.size ≤ gz by omega) _) (show w0.heap.size ≤ gz by omega) _) (show w0.heap.size ≤ gz by omega) _) _⟩
set_option maxRecDepth 100000 in
set_option maxHeartbeats 2000000 in
theorem find_sub (w0 w : World) (hok : Ok w0 w) :
    Calls Tryz.prog 50 #[.int .i64 4] w fun e w' => e = .returned (.tuple #[.agg #[.int .i64 4, .bool false, .bool false, .func (.func 101) #[] #[], .func (.func 102) #[] #[]], .bool true]) ∧ Ok w0 w' := by
  have hle := hok.le
  go_enter Tryz.func50, Tryz.ntmps50
  go_wp2_with fail
  obtain ⟨W, hW⟩ : ∃ W, W = (w).alloc (.cells #[.int .i64 0, .bool false, .bool false, .nilFunc, .nilFunc] 72) := ⟨_, rfl⟩
  have rz : Hid (W.heap[w.heap.size]? = some (.cells #[.int .i64 0, .bool false, .bool false, .nilFunc, .nilFunc] 72)) := by unfold Hid; rw [hW]; exact (by repeat (first | (refine heap_at _ _ _ ?hx; case hx => (first | (simp; done) | (simp; omega))) | (refine heap_past _ _ _ ?hy ?_; case hy => (first | (simp; done) | (simp; omega))) | fail))
  have HW : Hid (Ok w0 W) := by unfold Hid; rw [hW]; exact (by repeat (first | exact hok | refine Ok.alloc ?_ _ | refine Ok.draws ?_ _ | fail))
  rw [← hW]
  clear hW
  obtain ⟨gz, egz⟩ : ∃ g, g = w.heap.size := ⟨_, rfl⟩
  rw [← egz] at rz ⊢
  have lgz : w0.heap.size ≤ gz := by omega
  clear egz
  go_loopw [19] (fun a wr => ∃ k : Nat, k ≤ 2 ∧ a = .int .i64 (k : Int) ∧ Hid (Ok W wr)) (fun a _ => (7 - intOf a).toNat)
  case atStart => exact ⟨0, by omega, rfl, Ok.refl _⟩
  case round =>
    obtain ⟨k, hk, rfl, HK⟩ := hrel
    have hr : Hid _ := Ok.row' HK.out rz.out
    have hz := lt_row hr.out
    have nz1 : ¬ gz = wr.heap.size := by omega
    have nz2 : ¬ wr.heap.size = gz := by omega
    obtain ⟨k0, k1, k2, k3, k4, k5, k6, k7, k8, k9⟩ := row5_facts hr.out
    rcases (show k = 0 ∨ k = 1 ∨ k = 2 by omega) with rfl | rfl | rfl
    · go_wp2_with fail
      go_roundw
      case rel => exact ⟨1, by omega, rfl, HK.out.alloc _⟩
      case measure => simp [intOf]
    · go_wp2_with fail
      go_roundw
      case rel => exact ⟨2, by omega, rfl, HK.out.alloc _⟩
      case measure => simp [intOf]
    · go_wp2_with fail
      (try simp only [Exit.inBlock, Exit.then]); refine bodyPost_ret (results_iv rfl _ _ (gz) 72 #[_, _, _, _, _] (0, 0) _ rfl (heap_past _ _ _ (lt_row (row_set5 hr.out _ _ _ _ _)) (row_set5 hr.out _ _ _ _ _)) Tryz.underlying72 rfl infoO) rfl ?_
      exact ⟨rfl, Ok.alloc (Ok.set (Ok.set (Ok.set (Ok.set (Ok.set (HW.out.step HK.out) (show w0.heap.size ≤ gz by omega) _) (show w0.heap.size ≤ gz by omega) _) (show w0.heap.size ≤ gz by omega) _) (show w0.heap.size ≤ gz by omega) _) (show w0.heap.size ≤ gz by omega) _) _⟩
set_option maxRecDepth 100000 in
set_option maxHeartbeats 2000000 in
theorem find_mul (w0 w : World) (hok : Ok w0 w) :
    Calls Tryz.prog 50 #[.int .i64 5] w fun e w' => e = .returned (.tuple #[.agg #[.int .i64 5, .bool false, .bool false, .func (.func 103) #[] #[], .func (.func 104) #[] #[]], .bool true]) ∧ Ok w0 w' := by
  have hle := hok.le
  go_enter Tryz.func50, Tryz.ntmps50
  go_wp2_with fail
  obtain ⟨W, hW⟩ : ∃ W, W = (w).alloc (.cells #[.int .i64 0, .bool false, .bool false, .nilFunc, .nilFunc] 72) := ⟨_, rfl⟩
  have rz : Hid (W.heap[w.heap.size]? = some (.cells #[.int .i64 0, .bool false, .bool false, .nilFunc, .nilFunc] 72)) := by unfold Hid; rw [hW]; exact (by repeat (first | (refine heap_at _ _ _ ?hx; case hx => (first | (simp; done) | (simp; omega))) | (refine heap_past _ _ _ ?hy ?_; case hy => (first | (simp; done) | (simp; omega))) | fail))
  have HW : Hid (Ok w0 W) := by unfold Hid; rw [hW]; exact (by repeat (first | exact hok | refine Ok.alloc ?_ _ | refine Ok.draws ?_ _ | fail))
  rw [← hW]
  clear hW
  obtain ⟨gz, egz⟩ : ∃ g, g = w.heap.size := ⟨_, rfl⟩
  rw [← egz] at rz ⊢
  have lgz : w0.heap.size ≤ gz := by omega
  clear egz
  go_loopw [19] (fun a wr => ∃ k : Nat, k ≤ 3 ∧ a = .int .i64 (k : Int) ∧ Hid (Ok W wr)) (fun a _ => (7 - intOf a).toNat)
  case atStart => exact ⟨0, by omega, rfl, Ok.refl _⟩
  case round =>
    obtain ⟨k, hk, rfl, HK⟩ := hrel
    have hr : Hid _ := Ok.row' HK.out rz.out
    have hz := lt_row hr.out
    have nz1 : ¬ gz = wr.heap.size := by omega
    have nz2 : ¬ wr.heap.size = gz := by omega
    obtain ⟨k0, k1, k2, k3, k4, k5, k6, k7, k8, k9⟩ := row5_facts hr.out
    rcases (show k = 0 ∨ k = 1 ∨ k = 2 ∨ k = 3 by omega) with rfl | rfl | rfl | rfl
    · go_wp2_with fail
      go_roundw
      case rel => exact ⟨1, by omega, rfl, HK.out.alloc _⟩
      case measure => simp [intOf]
    · go_wp2_with fail
      go_roundw
      case rel => exact ⟨2, by omega, rfl, HK.out.alloc _⟩
      case measure => simp [intOf]
    · go_wp2_with fail
      go_roundw
      case rel => exact ⟨3, by omega, rfl, HK.out.alloc _⟩
      case measure => simp [intOf]
    · go_wp2_with fail
      (try simp only [Exit.inBlock, Exit.then]); refine bodyPost_ret (results_iv rfl _ _ (gz) 72 #[_, _, _, _, _] (0, 0) _ rfl (heap_past _ _ _ (lt_row (row_set5 hr.out _ _ _ _ _)) (row_set5 hr.out _ _ _ _ _)) Tryz.underlying72 rfl infoO) rfl ?_
      exact ⟨rfl, Ok.alloc (Ok.set (Ok.set (Ok.set (Ok.set (Ok.set (HW.out.step HK.out) (show w0.heap.size ≤ gz by omega) _) (show w0.heap.size ≤ gz by omega) _) (show w0.heap.size ≤ gz by omega) _) (show w0.heap.size ≤ gz by omega) _) (show w0.heap.size ≤ gz by omega) _) _⟩
set_option maxRecDepth 100000 in
set_option maxHeartbeats 2000000 in
theorem find_div (w0 w : World) (hok : Ok w0 w) :
    Calls Tryz.prog 50 #[.int .i64 6] w fun e w' => e = .returned (.tuple #[.agg #[.int .i64 6, .bool false, .bool true, .func (.func 105) #[] #[], .func (.func 106) #[] #[]], .bool true]) ∧ Ok w0 w' := by
  have hle := hok.le
  go_enter Tryz.func50, Tryz.ntmps50
  go_wp2_with fail
  obtain ⟨W, hW⟩ : ∃ W, W = (w).alloc (.cells #[.int .i64 0, .bool false, .bool false, .nilFunc, .nilFunc] 72) := ⟨_, rfl⟩
  have rz : Hid (W.heap[w.heap.size]? = some (.cells #[.int .i64 0, .bool false, .bool false, .nilFunc, .nilFunc] 72)) := by unfold Hid; rw [hW]; exact (by repeat (first | (refine heap_at _ _ _ ?hx; case hx => (first | (simp; done) | (simp; omega))) | (refine heap_past _ _ _ ?hy ?_; case hy => (first | (simp; done) | (simp; omega))) | fail))
  have HW : Hid (Ok w0 W) := by unfold Hid; rw [hW]; exact (by repeat (first | exact hok | refine Ok.alloc ?_ _ | refine Ok.draws ?_ _ | fail))
  rw [← hW]
  clear hW
  obtain ⟨gz, egz⟩ : ∃ g, g = w.heap.size := ⟨_, rfl⟩
  rw [← egz] at rz ⊢
  have lgz : w0.heap.size ≤ gz := by omega
  clear egz
  go_loopw [19] (fun a wr => ∃ k : Nat, k ≤ 4 ∧ a = .int .i64 (k : Int) ∧ Hid (Ok W wr)) (fun a _ => (7 - intOf a).toNat)
  case atStart => exact ⟨0, by omega, rfl, Ok.refl _⟩
  case round =>
    obtain ⟨k, hk, rfl, HK⟩ := hrel
    have hr : Hid _ := Ok.row' HK.out rz.out
    have hz := lt_row hr.out
    have nz1 : ¬ gz = wr.heap.size := by omega
    have nz2 : ¬ wr.heap.size = gz := by omega
    obtain ⟨k0, k1, k2, k3, k4, k5, k6, k7, k8, k9⟩ := row5_facts hr.out
    rcases (show k = 0 ∨ k = 1 ∨ k = 2 ∨ k = 3 ∨ k = 4 by omega) with rfl | rfl | rfl | rfl | rfl
    · go_wp2_with fail
      go_roundw
      case rel => exact ⟨1, by omega, rfl, HK.out.alloc _⟩
      case measure => simp [intOf]
    · go_wp2_with fail
      go_roundw
      case rel => exact ⟨2, by omega, rfl, HK.out.alloc _⟩
      case measure => simp [intOf]
    · go_wp2_with fail
      go_roundw
      case rel => exact ⟨3, by omega, rfl, HK.out.alloc _⟩
      case measure => simp [intOf]
    · go_wp2_with fail
      go_roundw
      case rel => exact ⟨4, by omega, rfl, HK.out.alloc _⟩
      case measure => simp [intOf]
    · go_wp2_with fail
      (try simp only [Exit.inBlock, Exit.then]); refine bodyPost_ret (results_iv rfl _ _ (gz) 72 #[_, _, _, _, _] (0, 0) _ rfl (heap_past _ _ _ (lt_row (row_set5 hr.out _ _ _ _ _)) (row_set5 hr.out _ _ _ _ _)) Tryz.underlying72 rfl infoO) rfl ?_
      exact ⟨rfl, Ok.alloc (Ok.set (Ok.set (Ok.set (Ok.set (Ok.set (HW.out.step HK.out) (show w0.heap.size ≤ gz by omega) _) (show w0.heap.size ≤ gz by omega) _) (show w0.heap.size ≤ gz by omega) _) (show w0.heap.size ≤ gz by omega) _) (show w0.heap.size ≤ gz by omega) _) _⟩
set_option maxRecDepth 100000 in
set_option maxHeartbeats 2000000 in
theorem find_rem (w0 w : World) (hok : Ok w0 w) :
    Calls Tryz.prog 50 #[.int .i64 7] w fun e w' => e = .returned (.tuple #[.agg #[.int .i64 7, .bool false, .bool true, .func (.func 107) #[] #[], .func (.func 108) #[] #[]], .bool true]) ∧ Ok w0 w' := by
  have hle := hok.le
  go_enter Tryz.func50, Tryz.ntmps50
  go_wp2_with fail
  obtain ⟨W, hW⟩ : ∃ W, W = (w).alloc (.cells #[.int .i64 0, .bool false, .bool false, .nilFunc, .nilFunc] 72) := ⟨_, rfl⟩
  have rz : Hid (W.heap[w.heap.size]? = some (.cells #[.int .i64 0, .bool false, .bool false, .nilFunc, .nilFunc] 72)) := by unfold Hid; rw [hW]; exact (by repeat (first | (refine heap_at _ _ _ ?hx; case hx => (first | (simp; done) | (simp; omega))) | (refine heap_past _ _ _ ?hy ?_; case hy => (first | (simp; done) | (simp; omega))) | fail))
  have HW : Hid (Ok w0 W) := by unfold Hid; rw [hW]; exact (by repeat (first | exact hok | refine Ok.alloc ?_ _ | refine Ok.draws ?_ _ | fail))
  rw [← hW]
  clear hW
  obtain ⟨gz, egz⟩ : ∃ g, g = w.heap.size := ⟨_, rfl⟩
  rw [← egz] at rz ⊢
  have lgz : w0.heap.size ≤ gz := by omega
  clear egz
  go_loopw [19] (fun a wr => ∃ k : Nat, k ≤ 5 ∧ a = .int .i64 (k : Int) ∧ Hid (Ok W wr)) (fun a _ => (7 - intOf a).toNat)
  case atStart => exact ⟨0, by omega, rfl, Ok.refl _⟩
  case round =>
    obtain ⟨k, hk, rfl, HK⟩ := hrel
    have hr : Hid _ := Ok.row' HK.out rz.out
    have hz := lt_row hr.out
    have nz1 : ¬ gz = wr.heap.size := by omega
    have nz2 : ¬ wr.heap.size = gz := by omega
    obtain ⟨k0, k1, k2, k3, k4, k5, k6, k7, k8, k9⟩ := row5_facts hr.out
    rcases (show k = 0 ∨ k = 1 ∨ k = 2 ∨ k = 3 ∨ k = 4 ∨ k = 5 by omega) with rfl | rfl | rfl | rfl | rfl | rfl
    · go_wp2_with fail
      go_roundw
      case rel => exact ⟨1, by omega, rfl, HK.out.alloc _⟩
      case measure => simp [intOf]
    · go_wp2_with fail
      go_roundw
      case rel => exact ⟨2, by omega, rfl, HK.out.alloc _⟩
      case measure => simp [intOf]
    · go_wp2_with fail
      go_roundw
      case rel => exact ⟨3, by omega, rfl, HK.out.alloc _⟩
      case measure => simp [intOf]
    · go_wp2_with fail
      go_roundw
      case rel => exact ⟨4, by omega, rfl, HK.out.alloc _⟩
      case measure => simp [intOf]
    · go_wp2_with fail
      go_roundw
      case rel => exact ⟨5, by omega, rfl, HK.out.alloc _⟩
      case measure => simp [intOf]
    · go_wp2_with fail
      (try simp only [Exit.inBlock, Exit.then]); refine bodyPost_ret (results_iv rfl _ _ (gz) 72 #[_, _, _, _, _] (0, 0) _ rfl (heap_past _ _ _ (lt_row (row_set5 hr.out _ _ _ _ _)) (row_set5 hr.out _ _ _ _ _)) Tryz.underlying72 rfl infoO) rfl ?_
      exact ⟨rfl, Ok.alloc (Ok.set (Ok.set (Ok.set (Ok.set (Ok.set (HW.out.step HK.out) (show w0.heap.size ≤ gz by omega) _) (show w0.heap.size ≤ gz by omega) _) (show w0.heap.size ≤ gz by omega) _) (show w0.heap.size ≤ gz by omega) _) (show w0.heap.size ≤ gz by omega) _) _⟩
end
section
open Go.RowKit

set_option maxRecDepth 100000 in
set_option maxHeartbeats 2000000 in
theorem opnd_two (op : Int) (a b : Int × Int × Nat × Nat × Bool) (ha : RawN a) (hb : RawN b) (w0 w : World) (hok : Ok w0 w) :
    Calls Tryz.prog 51 #[.agg #[.int .i64 op, .bool false, .bool false], nv a, nv b] w fun e w' => e = .returned (.tuple #[nv (normN a), nv (normN b)]) ∧ Ok w0 w' := by
  have hle := hok.le
  have HU : Hid _ := And.intro ha hb
  clear ha hb
  obtain ⟨x, hx⟩ : ∃ x, x = normN a := ⟨_, rfl⟩
  have HX : Hid _ := hx
  obtain ⟨y, hy⟩ : ∃ y, y = normN b := ⟨_, rfl⟩
  have HY : Hid _ := hy
  rw [← hx, ← hy]
  clear hx hy
  unfold nv
  go_enter Tryz.func51, Tryz.ntmps51
  go_wp2_with fail
  obtain ⟨W, hW⟩ : ∃ W, W = (((((w).alloc (.cells #[.int .i64 op, .bool false, .bool false] 68)).alloc (.cells #[.bool a.2.2.2.2, .int .i64 a.1, .int .i64 a.2.1, .int .u64 (a.2.2.1 : Int), .int .u64 (a.2.2.2.1 : Int)] 28)).alloc (.cells #[.bool b.2.2.2.2, .int .i64 b.1, .int .i64 b.2.1, .int .u64 (b.2.2.1 : Int), .int .u64 (b.2.2.2.1 : Int)] 28)).alloc (.cells #[.bool false, .int .i64 0, .int .i64 0, .int .u64 0, .int .u64 0] 28)).alloc (.cells #[.bool false, .int .i64 0, .int .i64 0, .int .u64 0, .int .u64 0] 28) := ⟨_, rfl⟩
  have rs : Hid (W.heap[w.heap.size]? = some (.cells #[.int .i64 op, .bool false, .bool false] 68)) := by unfold Hid; rw [hW]; exact (by repeat (first | (refine heap_at _ _ _ ?hx; case hx => (first | (simp; done) | (simp; omega))) | (refine heap_past _ _ _ ?hy ?_; case hy => (first | (simp; done) | (simp; omega))) | fail))
  have ra : Hid (W.heap[w.heap.size + 1]? = some (.cells #[.bool a.2.2.2.2, .int .i64 a.1, .int .i64 a.2.1, .int .u64 (a.2.2.1 : Int), .int .u64 (a.2.2.2.1 : Int)] 28)) := by unfold Hid; rw [hW]; exact (by repeat (first | (refine heap_at _ _ _ ?hx; case hx => (first | (simp; done) | (simp; omega))) | (refine heap_past _ _ _ ?hy ?_; case hy => (first | (simp; done) | (simp; omega))) | fail))
  have rb : Hid (W.heap[w.heap.size + 1 + 1]? = some (.cells #[.bool b.2.2.2.2, .int .i64 b.1, .int .i64 b.2.1, .int .u64 (b.2.2.1 : Int), .int .u64 (b.2.2.2.1 : Int)] 28)) := by unfold Hid; rw [hW]; exact (by repeat (first | (refine heap_at _ _ _ ?hx; case hx => (first | (simp; done) | (simp; omega))) | (refine heap_past _ _ _ ?hy ?_; case hy => (first | (simp; done) | (simp; omega))) | fail))
  have r1 : Hid (W.heap[w.heap.size + 1 + 1 + 1]? = some (.cells #[.bool false, .int .i64 0, .int .i64 0, .int .u64 0, .int .u64 0] 28)) := by unfold Hid; rw [hW]; exact (by repeat (first | (refine heap_at _ _ _ ?hx; case hx => (first | (simp; done) | (simp; omega))) | (refine heap_past _ _ _ ?hy ?_; case hy => (first | (simp; done) | (simp; omega))) | fail))
  have r2 : Hid (W.heap[w.heap.size + 1 + 1 + 1 + 1]? = some (.cells #[.bool false, .int .i64 0, .int .i64 0, .int .u64 0, .int .u64 0] 28)) := by unfold Hid; rw [hW]; exact (by repeat (first | (refine heap_at _ _ _ ?hx; case hx => (first | (simp; done) | (simp; omega))) | (refine heap_past _ _ _ ?hy ?_; case hy => (first | (simp; done) | (simp; omega))) | fail))
  have HW : Hid (Ok w0 W) := by unfold Hid; rw [hW]; exact (by repeat (first | exact hok | refine Ok.alloc ?_ _ | refine Ok.draws ?_ _ | fail))
  rw [← hW]
  clear hW
  obtain ⟨g2, eg2⟩ : ∃ g, g = w.heap.size + 1 + 1 + 1 + 1 := ⟨_, rfl⟩
  rw [← eg2] at r2 ⊢
  obtain ⟨g1, eg1⟩ : ∃ g, g = w.heap.size + 1 + 1 + 1 := ⟨_, rfl⟩
  rw [← eg1] at r1 ⊢
  obtain ⟨gb, egb⟩ : ∃ g, g = w.heap.size + 1 + 1 := ⟨_, rfl⟩
  rw [← egb] at rb ⊢
  obtain ⟨ga, ega⟩ : ∃ g, g = w.heap.size + 1 := ⟨_, rfl⟩
  rw [← ega] at ra ⊢
  obtain ⟨gs, egs⟩ : ∃ g, g = w.heap.size := ⟨_, rfl⟩
  rw [← egs] at rs ⊢
  have lgs : w0.heap.size ≤ gs := by omega
  have ngsga : ¬ gs = ga := by omega
  have ngsgb : ¬ gs = gb := by omega
  have ngsg1 : ¬ gs = g1 := by omega
  have ngsg2 : ¬ gs = g2 := by omega
  have lga : w0.heap.size ≤ ga := by omega
  have ngags : ¬ ga = gs := by omega
  have ngagb : ¬ ga = gb := by omega
  have ngag1 : ¬ ga = g1 := by omega
  have ngag2 : ¬ ga = g2 := by omega
  have lgb : w0.heap.size ≤ gb := by omega
  have ngbgs : ¬ gb = gs := by omega
  have ngbga : ¬ gb = ga := by omega
  have ngbg1 : ¬ gb = g1 := by omega
  have ngbg2 : ¬ gb = g2 := by omega
  have lg1 : w0.heap.size ≤ g1 := by omega
  have ng1gs : ¬ g1 = gs := by omega
  have ng1ga : ¬ g1 = ga := by omega
  have ng1gb : ¬ g1 = gb := by omega
  have ng1g2 : ¬ g1 = g2 := by omega
  have lg2 : w0.heap.size ≤ g2 := by omega
  have ng2gs : ¬ g2 = gs := by omega
  have ng2ga : ¬ g2 = ga := by omega
  have ng2gb : ¬ g2 = gb := by omega
  have ng2g1 : ¬ g2 = g1 := by omega
  clear egs ega egb eg1 eg2
  refine (nnorm_any a HU.out.1 W _ (by repeat (first | exact Ok.refl _ | refine Ok.alloc ?_ _ | refine Ok.draws ?_ _ | fail))).mono ?_
  rintro e w1 ⟨rfl, hb⟩
  replace rs : Hid _ := Ok.row' hb rs.out
  replace ra : Hid _ := Ok.row' hb ra.out
  replace rb : Hid _ := Ok.row' hb rb.out
  replace r1 : Hid _ := Ok.row' hb r1.out
  replace r2 : Hid _ := Ok.row' hb r2.out
  have Hw1 : Hid (Ok w0 w1) := HW.out.step hb
  clear hb
  rw [← HX.out]
  unfold nv
  obtain ⟨a0, a1, a2, a3, a4, a5, a6, a7, a8, a9⟩ := row5_facts ra.out
  obtain ⟨s0, s1, s2, s3, s4, s5⟩ := row3_facts rs.out
  obtain ⟨b0, b1, b2, b3, b4, b5, b6, b7, b8, b9⟩ := row5_facts rb.out
  go_wp2_with fail
  obtain ⟨Z, hZ⟩ : ∃ Z, Z = (((((w1.setCell ⟨ga, 0, none⟩ (.bool x.2.2.2.2)).setCell ⟨ga, 1, none⟩ (.int .i64 x.1)).setCell ⟨ga, 2, none⟩ (.int .i64 x.2.1)).setCell ⟨ga, 3, none⟩ (.int .u64 (x.2.2.1 : Int))).setCell ⟨ga, 4, none⟩ (.int .u64 (x.2.2.2.1 : Int))) := ⟨_, rfl⟩
  obtain ⟨HZ, raz, keep⟩ := (rows_put1 ra.out Hw1.out (by omega) _ _ _ _ _ hZ).out
  replace HZ : Hid (Ok w0 Z) := HZ
  replace raz : Hid _ := raz
  replace rs : Hid _ := keep _ _ (by omega) rs.out
  replace rb : Hid _ := keep _ _ (by omega) rb.out
  replace r1 : Hid _ := keep _ _ (by omega) r1.out
  replace r2 : Hid _ := keep _ _ (by omega) r2.out
  rw [← hZ]
  clear hZ keep ra
  clear a0 a1 a2 a3 a4 a5 a6 a7 a8 a9 b0 b1 b2 b3 b4 b5 b6 b7 b8 b9 s0 s1 s2 s3 s4 s5
  obtain ⟨a0, a1, a2, a3, a4, a5, a6, a7, a8, a9⟩ := row5_facts raz.out
  obtain ⟨b0, b1, b2, b3, b4, b5, b6, b7, b8, b9⟩ := row5_facts rb.out
  obtain ⟨p0, p1, p2, p3, p4, p5, p6, p7, p8, p9⟩ := row5_facts r1.out
  obtain ⟨q0, q1, q2, q3, q4, q5, q6, q7, q8, q9⟩ := row5_facts r2.out
  have za := lt_row raz.out
  have zb := lt_row rb.out
  have bz : Ok Z Z := Ok.refl _
  go_region_held3 (fun w' => w'.cell? ⟨ga, 0, none⟩ = some (.bool x.2.2.2.2) ∧ w'.cell? ⟨ga, 1, none⟩ = some (.int .i64 x.1) ∧ w'.cell? ⟨ga, 2, none⟩ = some (.int .i64 x.2.1) ∧ w'.cell? ⟨ga, 3, none⟩ = some (.int .u64 (x.2.2.1 : Int)) ∧ w'.cell? ⟨ga, 4, none⟩ = some (.int .u64 (x.2.2.2.1 : Int)) ∧ w'.cell? ⟨gb, 0, none⟩ = some (.bool b.2.2.2.2) ∧ w'.cell? ⟨gb, 1, none⟩ = some (.int .i64 b.1) ∧ w'.cell? ⟨gb, 2, none⟩ = some (.int .i64 b.2.1) ∧ w'.cell? ⟨gb, 3, none⟩ = some (.int .u64 (b.2.2.1 : Int)) ∧ w'.cell? ⟨gb, 4, none⟩ = some (.int .u64 (b.2.2.2.1 : Int))) (go_keep)
    (first
    | (go_at_call 9; refine (nnorm_any b HU.out.2 Z _ (by repeat (first | assumption | refine Ok.alloc ?_ _ | refine Below.drew ?_))).mono ?_; rintro e w' ⟨rfl, hb⟩; rw [← HY.out]; unfold nv; have q0 := Ok.cell hb za a0; have q1 := Ok.cell hb za a1; have q2 := Ok.cell hb za a2; have q3 := Ok.cell hb za a3; have q4 := Ok.cell hb za a4; have q5 := Ok.cell hb zb b0; have q6 := Ok.cell hb zb b1; have q7 := Ok.cell hb zb b2; have q8 := Ok.cell hb zb b3; have q9 := Ok.cell hb zb b4; obtain ⟨p0, p1, p2, p3, p4, p5, p6, p7, p8, p9⟩ := row5_facts (Ok.row' hb r1.out); obtain ⟨q0, q1, q2, q3, q4, q5, q6, q7, q8, q9⟩ := row5_facts (Ok.row' hb r2.out))
    | fail)
  go_wp2_with fail
  (try simp only [Exit.inBlock, Exit.then]); refine bodyPost_ret (results_2c rfl _ _ g1 g2 28 #[_, _, _, _, _] #[_, _, _, _, _] (0, 0) _ rfl rfl (rows_put2 (g := g1) (k := g2) (by omega) r1.out r2.out hb HZ.out (by omega) (by omega) _ _ _ _ _ _ _ _ _ _).out.2.1 (rows_put2 (g := g1) (k := g2) (by omega) r1.out r2.out hb HZ.out (by omega) (by omega) _ _ _ _ _ _ _ _ _ _).out.2.2.1 Tryz.underlying28 rfl infoN infoN) rfl ?_
  exact ⟨rfl, (rows_put2 (g := g1) (k := g2) (by omega) r1.out r2.out hb HZ.out (by omega) (by omega) _ _ _ _ _ _ _ _ _ _).out.1⟩
set_option maxRecDepth 100000 in
set_option maxHeartbeats 2000000 in
theorem opnd_div (op : Int) (a b : Int × Int × Nat × Nat × Bool) (ha : RawN a) (hb : RawN b) (w0 w : World) (hok : Ok w0 w) :
    Calls Tryz.prog 51 #[.agg #[.int .i64 op, .bool false, .bool true], nv a, nv b] w fun e w' => e = .returned (.tuple #[nv (normN a), nv (nonZeroN b)]) ∧ Ok w0 w' := by
  have hle := hok.le
  have HU : Hid _ := And.intro ha hb
  clear ha hb
  obtain ⟨x, hx⟩ : ∃ x, x = normN a := ⟨_, rfl⟩
  have HX : Hid _ := hx
  obtain ⟨y, hy⟩ : ∃ y, y = nonZeroN b := ⟨_, rfl⟩
  have HY : Hid _ := hy
  rw [← hx, ← hy]
  clear hx hy
  unfold nv
  go_enter Tryz.func51, Tryz.ntmps51
  go_wp2_with fail
  obtain ⟨W, hW⟩ : ∃ W, W = (((((w).alloc (.cells #[.int .i64 op, .bool false, .bool true] 68)).alloc (.cells #[.bool a.2.2.2.2, .int .i64 a.1, .int .i64 a.2.1, .int .u64 (a.2.2.1 : Int), .int .u64 (a.2.2.2.1 : Int)] 28)).alloc (.cells #[.bool b.2.2.2.2, .int .i64 b.1, .int .i64 b.2.1, .int .u64 (b.2.2.1 : Int), .int .u64 (b.2.2.2.1 : Int)] 28)).alloc (.cells #[.bool false, .int .i64 0, .int .i64 0, .int .u64 0, .int .u64 0] 28)).alloc (.cells #[.bool false, .int .i64 0, .int .i64 0, .int .u64 0, .int .u64 0] 28) := ⟨_, rfl⟩
  have rs : Hid (W.heap[w.heap.size]? = some (.cells #[.int .i64 op, .bool false, .bool true] 68)) := by unfold Hid; rw [hW]; exact (by repeat (first | (refine heap_at _ _ _ ?hx; case hx => (first | (simp; done) | (simp; omega))) | (refine heap_past _ _ _ ?hy ?_; case hy => (first | (simp; done) | (simp; omega))) | fail))
  have ra : Hid (W.heap[w.heap.size + 1]? = some (.cells #[.bool a.2.2.2.2, .int .i64 a.1, .int .i64 a.2.1, .int .u64 (a.2.2.1 : Int), .int .u64 (a.2.2.2.1 : Int)] 28)) := by unfold Hid; rw [hW]; exact (by repeat (first | (refine heap_at _ _ _ ?hx; case hx => (first | (simp; done) | (simp; omega))) | (refine heap_past _ _ _ ?hy ?_; case hy => (first | (simp; done) | (simp; omega))) | fail))
  have rb : Hid (W.heap[w.heap.size + 1 + 1]? = some (.cells #[.bool b.2.2.2.2, .int .i64 b.1, .int .i64 b.2.1, .int .u64 (b.2.2.1 : Int), .int .u64 (b.2.2.2.1 : Int)] 28)) := by unfold Hid; rw [hW]; exact (by repeat (first | (refine heap_at _ _ _ ?hx; case hx => (first | (simp; done) | (simp; omega))) | (refine heap_past _ _ _ ?hy ?_; case hy => (first | (simp; done) | (simp; omega))) | fail))
  have r1 : Hid (W.heap[w.heap.size + 1 + 1 + 1]? = some (.cells #[.bool false, .int .i64 0, .int .i64 0, .int .u64 0, .int .u64 0] 28)) := by unfold Hid; rw [hW]; exact (by repeat (first | (refine heap_at _ _ _ ?hx; case hx => (first | (simp; done) | (simp; omega))) | (refine heap_past _ _ _ ?hy ?_; case hy => (first | (simp; done) | (simp; omega))) | fail))
  have r2 : Hid (W.heap[w.heap.size + 1 + 1 + 1 + 1]? = some (.cells #[.bool false, .int .i64 0, .int .i64 0, .int .u64 0, .int .u64 0] 28)) := by unfold Hid; rw [hW]; exact (by repeat (first | (refine heap_at _ _ _ ?hx; case hx => (first | (simp; done) | (simp; omega))) | (refine heap_past _ _ _ ?hy ?_; case hy => (first | (simp; done) | (simp; omega))) | fail))
  have HW : Hid (Ok w0 W) := by unfold Hid; rw [hW]; exact (by repeat (first | exact hok | refine Ok.alloc ?_ _ | refine Ok.draws ?_ _ | fail))
  rw [← hW]
  clear hW
  obtain ⟨g2, eg2⟩ : ∃ g, g = w.heap.size + 1 + 1 + 1 + 1 := ⟨_, rfl⟩
  rw [← eg2] at r2 ⊢
  obtain ⟨g1, eg1⟩ : ∃ g, g = w.heap.size + 1 + 1 + 1 := ⟨_, rfl⟩
  rw [← eg1] at r1 ⊢
  obtain ⟨gb, egb⟩ : ∃ g, g = w.heap.size + 1 + 1 := ⟨_, rfl⟩
  rw [← egb] at rb ⊢
  obtain ⟨ga, ega⟩ : ∃ g, g = w.heap.size + 1 := ⟨_, rfl⟩
  rw [← ega] at ra ⊢
  obtain ⟨gs, egs⟩ : ∃ g, g = w.heap.size := ⟨_, rfl⟩
  rw [← egs] at rs ⊢
  have lgs : w0.heap.size ≤ gs := by omega
  have ngsga : ¬ gs = ga := by omega
  have ngsgb : ¬ gs = gb := by omega
  have ngsg1 : ¬ gs = g1 := by omega
  have ngsg2 : ¬ gs = g2 := by omega
  have lga : w0.heap.size ≤ ga := by omega
  have ngags : ¬ ga = gs := by omega
  have ngagb : ¬ ga = gb := by omega
  have ngag1 : ¬ ga = g1 := by omega
  have ngag2 : ¬ ga = g2 := by omega
  have lgb : w0.heap.size ≤ gb := by omega
  have ngbgs : ¬ gb = gs := by omega
  have ngbga : ¬ gb = ga := by omega
  have ngbg1 : ¬ gb = g1 := by omega
  have ngbg2 : ¬ gb = g2 := by omega
  have lg1 : w0.heap.size ≤ g1 := by omega
  have ng1gs : ¬ g1 = gs := by omega
  have ng1ga : ¬ g1 = ga := by omega
  have ng1gb : ¬ g1 = gb := by omega
  have ng1g2 : ¬ g1 = g2 := by omega
  have lg2 : w0.heap.size ≤ g2 := by omega
  have ng2gs : ¬ g2 = gs := by omega
  have ng2ga : ¬ g2 = ga := by omega
  have ng2gb : ¬ g2 = gb := by omega
  have ng2g1 : ¬ g2 = g1 := by omega
  clear egs ega egb eg1 eg2
  refine (nnorm_any a HU.out.1 W _ (by repeat (first | exact Ok.refl _ | refine Ok.alloc ?_ _ | refine Ok.draws ?_ _ | fail))).mono ?_
  rintro e w1 ⟨rfl, hb⟩
  replace rs : Hid _ := Ok.row' hb rs.out
  replace ra : Hid _ := Ok.row' hb ra.out
  replace rb : Hid _ := Ok.row' hb rb.out
  replace r1 : Hid _ := Ok.row' hb r1.out
  replace r2 : Hid _ := Ok.row' hb r2.out
  have Hw1 : Hid (Ok w0 w1) := HW.out.step hb
  clear hb
  rw [← HX.out]
  unfold nv
  obtain ⟨a0, a1, a2, a3, a4, a5, a6, a7, a8, a9⟩ := row5_facts ra.out
  obtain ⟨s0, s1, s2, s3, s4, s5⟩ := row3_facts rs.out
  obtain ⟨b0, b1, b2, b3, b4, b5, b6, b7, b8, b9⟩ := row5_facts rb.out
  go_wp2_with fail
  obtain ⟨Z, hZ⟩ : ∃ Z, Z = (((((w1.setCell ⟨ga, 0, none⟩ (.bool x.2.2.2.2)).setCell ⟨ga, 1, none⟩ (.int .i64 x.1)).setCell ⟨ga, 2, none⟩ (.int .i64 x.2.1)).setCell ⟨ga, 3, none⟩ (.int .u64 (x.2.2.1 : Int))).setCell ⟨ga, 4, none⟩ (.int .u64 (x.2.2.2.1 : Int))) := ⟨_, rfl⟩
  obtain ⟨HZ, raz, keep⟩ := (rows_put1 ra.out Hw1.out (by omega) _ _ _ _ _ hZ).out
  replace HZ : Hid (Ok w0 Z) := HZ
  replace raz : Hid _ := raz
  replace rs : Hid _ := keep _ _ (by omega) rs.out
  replace rb : Hid _ := keep _ _ (by omega) rb.out
  replace r1 : Hid _ := keep _ _ (by omega) r1.out
  replace r2 : Hid _ := keep _ _ (by omega) r2.out
  rw [← hZ]
  clear hZ keep ra
  clear a0 a1 a2 a3 a4 a5 a6 a7 a8 a9 b0 b1 b2 b3 b4 b5 b6 b7 b8 b9 s0 s1 s2 s3 s4 s5
  obtain ⟨a0, a1, a2, a3, a4, a5, a6, a7, a8, a9⟩ := row5_facts raz.out
  obtain ⟨b0, b1, b2, b3, b4, b5, b6, b7, b8, b9⟩ := row5_facts rb.out
  obtain ⟨p0, p1, p2, p3, p4, p5, p6, p7, p8, p9⟩ := row5_facts r1.out
  obtain ⟨q0, q1, q2, q3, q4, q5, q6, q7, q8, q9⟩ := row5_facts r2.out
  have za := lt_row raz.out
  have zb := lt_row rb.out
  have bz : Ok Z Z := Ok.refl _
  go_region_held3 (fun w' => w'.cell? ⟨ga, 0, none⟩ = some (.bool x.2.2.2.2) ∧ w'.cell? ⟨ga, 1, none⟩ = some (.int .i64 x.1) ∧ w'.cell? ⟨ga, 2, none⟩ = some (.int .i64 x.2.1) ∧ w'.cell? ⟨ga, 3, none⟩ = some (.int .u64 (x.2.2.1 : Int)) ∧ w'.cell? ⟨ga, 4, none⟩ = some (.int .u64 (x.2.2.2.1 : Int)) ∧ w'.cell? ⟨gb, 0, none⟩ = some (.bool b.2.2.2.2) ∧ w'.cell? ⟨gb, 1, none⟩ = some (.int .i64 b.1) ∧ w'.cell? ⟨gb, 2, none⟩ = some (.int .i64 b.2.1) ∧ w'.cell? ⟨gb, 3, none⟩ = some (.int .u64 (b.2.2.1 : Int)) ∧ w'.cell? ⟨gb, 4, none⟩ = some (.int .u64 (b.2.2.2.1 : Int))) (go_keep)
    (first
    | (go_at_call 12; refine (nnz_any b HU.out.2 Z _ (by repeat (first | assumption | refine Ok.alloc ?_ _ | refine Below.drew ?_))).mono ?_; rintro e w' ⟨rfl, hb⟩; rw [← HY.out]; unfold nv; have q0 := Ok.cell hb za a0; have q1 := Ok.cell hb za a1; have q2 := Ok.cell hb za a2; have q3 := Ok.cell hb za a3; have q4 := Ok.cell hb za a4; have q5 := Ok.cell hb zb b0; have q6 := Ok.cell hb zb b1; have q7 := Ok.cell hb zb b2; have q8 := Ok.cell hb zb b3; have q9 := Ok.cell hb zb b4; obtain ⟨p0, p1, p2, p3, p4, p5, p6, p7, p8, p9⟩ := row5_facts (Ok.row' hb r1.out); obtain ⟨q0, q1, q2, q3, q4, q5, q6, q7, q8, q9⟩ := row5_facts (Ok.row' hb r2.out))
    | fail)
  go_wp2_with fail
  (try simp only [Exit.inBlock, Exit.then]); refine bodyPost_ret (results_2c rfl _ _ g1 g2 28 #[_, _, _, _, _] #[_, _, _, _, _] (0, 0) _ rfl rfl (rows_put2 (g := g1) (k := g2) (by omega) r1.out r2.out hb HZ.out (by omega) (by omega) _ _ _ _ _ _ _ _ _ _).out.2.1 (rows_put2 (g := g1) (k := g2) (by omega) r1.out r2.out hb HZ.out (by omega) (by omega) _ _ _ _ _ _ _ _ _ _).out.2.2.1 Tryz.underlying28 rfl infoN infoN) rfl ?_
  exact ⟨rfl, (rows_put2 (g := g1) (k := g2) (by omega) r1.out r2.out hb HZ.out (by omega) (by omega) _ _ _ _ _ _ _ _ _ _).out.1⟩
end
section
open Go.RowKit
theorem cnt_set : ∀ (l : List Bool) (i : Nat), l[i]? = some false → (l.set i true).count false + 1 = l.count false
  | [], i, h => by simp at h
  | b :: l, 0, h => by
    simp at h
    subst h
    simp
  | b :: l, i + 1, h => by
    have h' : l[i]? = some false := by simpa using h
    have := cnt_set l i h'
    cases b <;> simp_all <;> omega
theorem getD_false {l : Array Bool} {i : Nat} (h : l.getD i true = false) : l.toList[i]? = some false := by
  rw [Array.getElem?_toList]
  rw [Array.getD_eq_getD_getElem?] at h
  cases e : l[i]? with
  | none => rw [e] at h; cases h
  | some b => rw [e] at h; simp at h; rw [h]
section
variable {P : Program} {ops : Array Oper} {Q : Exit → Act → World → Prop} {md : Region.Mode}
theorem wpAny_inv {I : Array Bool → Act → World → Prop}
    (step : ∀ (l : Array Bool) (a : Act) (w : World) (i : Nat), I l a w → i ∈ Region.ready md ops l → ∀ K : Act → World → Prop, (∀ a' w', I (l.setIfInBounds i true) a' w' → K a' w') → wpOp P ops Q i K a w)
    (fin : ∀ (l : Array Bool) (a : Act) (w : World), I l a w → Region.ready md ops l = [] → Q .normal a w) :
    ∀ (fuel : Nat) (l : Array Bool) (a : Act) (w : World), I l a w → l.toList.count false ≤ fuel → wpAny P md ops Q fuel l a w
  | 0, l, a, w, h, hf => by
    have e : Region.ready md ops l = [] := by
      apply List.eq_nil_iff_forall_not_mem.2
      intro i hi
      have := List.count_pos_iff.2 (List.mem_of_getElem? (getD_false (mem_ready.1 hi).1))
      omega
    exact ⟨e, fin l a w h e⟩
  | fuel + 1, l, a, w, h, hf => by
    refine ⟨fin l a w h, fun i hi => step l a w i h hi _ (fun a' w' h' => wpAny_inv step fin fuel _ a' w' h' ?_)⟩
    have := cnt_set l.toList i (getD_false (mem_ready.1 hi).1)
    rw [Array.toList_setIfInBounds]
    omega
/-- Edges go back: nothing is ready when all is listed alone. -/
def Back (md : Region.Mode) (ops : Array Oper) : Bool := (List.range ops.size).all fun i => ((ops[i]?).map (·.after.all fun e => !Region.binds md e || decide (e.on < i))).getD true
theorem all_listed (hb : Back md ops = true) {l : Array Bool} (hs : l.size = ops.size) (hr : Region.ready md ops l = []) : ∀ i, i < ops.size → l.getD i true = true := by
  intro i
  induction i using Nat.strongRecOn with
  | _ i ih =>
    intro hi
    cases c : l.getD i true with
    | true => rfl
    | false =>
      exfalso
      have hn : i ∉ Region.ready md ops l := by rw [hr]; simp
      apply hn
      rw [mem_ready]
      refine ⟨c, ops[i], Array.getElem?_eq_getElem hi, fun e he hbd => ?_⟩
      have hb' := List.all_eq_true.1 hb i (List.mem_range.2 hi)
      rw [Array.getElem?_eq_getElem hi] at hb'
      simp only [Option.map_some, Option.getD_some, Array.all_eq_true_iff_forall_mem] at hb'
      have h1 := hb' e he
      rw [hbd] at h1
      have hlt : e.on < i := by simpa using h1
      have h2 := ih e.on hlt (by omega)
      rw [Array.getD_eq_getD_getElem?, Array.getElem?_eq_getElem (by omega)] at h2 ⊢
      simpa using h2
theorem wp_region_inv {id : Nat} {F : Act} {W : World} (hm : P.follows .mixedOrders = true) (hg : ops.all (·.guard.isNone) = true) (I : Act → Array Bool → Act → World → Prop)
    (start : I F (Array.replicate ops.size false) F { W with drawn := W.drawn + 1 })
    (step : ∀ (l : Array Bool) (a : Act) (w : World) (i : Nat) (o : Oper), I F l a w → l.getD i true = false → ops[i]? = some o → (∀ e ∈ o.after, Region.binds .any e = true → l.getD e.on false = true) → ∀ K' : Act → World → Prop, Shut (∀ a' w', I F (l.setIfInBounds i true) a' w' → K' a' w') → Oper.wp P o a w K' Q)
    (fin : ∀ (l : Array Bool) (a : Act) (w : World), I F l a w → Region.ready .any ops l = [] → Q .normal a w) : (Code.region id ops true).wp P Q F W := by
  refine wp_region_any hm (wpAny_inv (I := I F) (fun l a w i h hi K hK => ?_) fin _ _ _ _ start ?_)
  · obtain ⟨h0, o, ho, hd⟩ := mem_ready.1 hi
    refine wpOp_step ho (fun K' hK' => ?_)
    have hn : o.guard = none := by
      have := Array.all_eq_true_iff_forall_mem.1 hg o (Array.mem_of_getElem? ho)
      simpa using this
    rw [if_pos (by unfold Region.wanted; rw [hn])]
    exact step l a w i o h h0 ho hd K' (fun a' w' h' => hK' a' w' (hK a' w' h'))
  · simp
end
/-- A new block that holds cells. -/
def PR (W w : World) (s : Value) (cs : Array Value) (t : TypeId) : Prop := ∃ g, s = .pointer (some ⟨g, 0, none⟩) ∧ W.heap.size ≤ g ∧ w.heap[g]? = some (.cells cs t (0, 0))
theorem PR.elim {C : Prop} {W w : World} {s : Value} {cs : Array Value} {t : TypeId} (h : PR W w s cs t) (k : ∀ g, s = .pointer (some ⟨g, 0, none⟩) → W.heap.size ≤ g → w.heap[g]? = some (.cells cs t (0, 0)) → C) : C := by
  obtain ⟨g, e, l, r⟩ := h
  exact k g e l r
theorem PR.step {W w w' : World} {s : Value} {cs : Array Value} {t : TypeId} (h : PR W w s cs t) (hb : Ok w w') : PR W w' s cs t := by
  obtain ⟨g, e, l, r⟩ := h
  exact ⟨g, e, l, Ok.row' hb r⟩
theorem PR.new {W w : World} {cs : Array Value} {t : TypeId} (h : Ok W w) : PR W (w.alloc (.cells cs t (0, 0))) (.pointer (some ⟨w.heap.size, 0, none⟩)) cs t := ⟨w.heap.size, rfl, h.le, heap_new0 _ _⟩
theorem PR.ne {W w : World} {s : Value} {cs : Array Value} {t : TypeId} (h : PR W w s cs t) : s ≠ .pointer (some ⟨w.heap.size, 0, none⟩) := by
  obtain ⟨g, e, l, r⟩ := h
  intro c
  have hl := lt_row r
  rw [e] at c
  injection c with c
  injection c with c
  injection c with c
  omega
theorem PR.keep {W w w' : World} {s : Value} {cs : Array Value} {t : TypeId} {g : Nat} (h : PR W w s cs t) (hs : s ≠ .pointer (some ⟨g, 0, none⟩)) (k : ∀ (h : Nat) (o : Obj), h ≠ g → w.heap[h]? = some o → w'.heap[h]? = some o) : PR W w' s cs t := by
  obtain ⟨h1, e, l, r⟩ := h
  refine ⟨h1, e, l, k _ _ (fun c => hs ?_) r⟩
  rw [e, c]
end
end Go.Proofs.YtbclkkpddomoiaaGreat
