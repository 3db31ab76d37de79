import Derived.Deep.Cut
import Derived.Deep.CutRange
import Derived.Test.YtpjpjhjjhoeijaaGreatKKB
import Derived.Test.YtpjpjhjjhoeijaaGreatKRa
import Derived.Test.YtpjpjhjjhoeijaaGreatKRe
set_option linter.unusedVariables false
set_option linter.unusedSimpArgs false
set_option linter.unnecessarySimpa false
/- Apply of any operator. -/
namespace Go.Proofs.YtpjpjhjjhoeijaaGreat
open Go.RowKit
theorem run_store_nil (w : World) (a : Addr) (m : Mode) : (store a .nilFunc m).run Tryz.prog w = stored Tryz.prog w a .nilFunc m := run_store _ w a _ m rfl
attribute [local go_sem] run_store_fun run_store_nil nidx0 nidx1 nidx2 nidx3 nidx4 nidx5
def zeroN : Int × Int × Nat × Nat × Bool := (0, 0, 0, 0, false)
theorem no6 {op : Int} (h : ¬ Op6 op) : ¬ op = 1 ∧ ¬ op = 3 ∧ ¬ op = 4 ∧ ¬ op = 5 ∧ ¬ op = 6 ∧ ¬ op = 7 := by unfold Op6 at h; omega

set_option maxRecDepth 100000 in
set_option maxHeartbeats 4000000 in
theorem find_none (op : Int) (ho : ¬ Op6 op) (w0 w : World) (hok : Ok w0 w) :
    Calls Tryz.prog 26 #[.int .i64 op] w fun e w' => e = .returned (.tuple #[.agg #[.int .i64 0, .bool false, .bool false, .nilFunc, .nilFunc], .bool false]) ∧ Ok w0 w' := by
  have hle := hok.le
  obtain ⟨h1, h3, h4, h5, h6, h7⟩ := no6 ho
  clear ho
  have e1 : ((1 : Int) == op) = false := by simp; omega
  have e3 : ((3 : Int) == op) = false := by simp; omega
  have e4 : ((4 : Int) == op) = false := by simp; omega
  have e5 : ((5 : Int) == op) = false := by simp; omega
  have e6 : ((6 : Int) == op) = false := by simp; omega
  have e7 : ((7 : Int) == op) = false := by simp; omega
  clear h1 h3 h4 h5 h6 h7
  go_enter Tryz.func26, Tryz.ntmps26
  go_wp2_with fail
  obtain ⟨W, hW⟩ : ∃ W, W = (w).alloc (.cells #[.int .i64 0, .bool false, .bool false, .nilFunc, .nilFunc] 58) := ⟨_, rfl⟩
  have rz : Hid (W.heap[w.heap.size]? = some (.cells #[.int .i64 0, .bool false, .bool false, .nilFunc, .nilFunc] 58)) := by unfold Hid; rw [hW]; exact (by repeat (first | (refine heap_at _ _ _ ?hx; case hx => (first | (simp; done) | (simp; omega))) | (refine heap_past _ _ _ ?hy ?_; case hy => (first | (simp; done) | (simp; omega))) | fail))
  have HW : Hid (Ok w0 W) := by unfold Hid; rw [hW]; exact (by repeat (first | exact hok | refine Ok.alloc ?_ _ | refine Ok.draws ?_ _ | fail))
  rw [← hW]
  clear hW
  obtain ⟨gz, egz⟩ : ∃ g, g = w.heap.size := ⟨_, rfl⟩
  rw [← egz] at rz ⊢
  have lgz : w0.heap.size ≤ gz := by omega
  clear egz
  go_loopw [19] (fun a wr => ∃ k : Nat, k ≤ 6 ∧ a = .int .i64 (k : Int) ∧ Hid (Ok W wr)) (fun a _ => (7 - intOf a).toNat)
  case atStart => exact ⟨0, by omega, rfl, Ok.refl _⟩
  case round =>
    obtain ⟨k, hk, rfl, HK⟩ := hrel
    have hr : Hid _ := Ok.row' HK.out rz.out
    have hz := lt_row hr.out
    have nz1 : ¬ gz = wr.heap.size := by omega
    have nz2 : ¬ wr.heap.size = gz := by omega
    obtain ⟨k0, k1, k2, k3, k4, k5, k6, k7, k8, k9⟩ := row5_facts hr.out
    rcases (show k = 0 ∨ k = 1 ∨ k = 2 ∨ k = 3 ∨ k = 4 ∨ k = 5 ∨ k = 6 by omega) with rfl | rfl | rfl | rfl | rfl | rfl | rfl
    · go_wp2_with fail
      go_roundw
      case rel => exact ⟨1, by omega, rfl, HK.out.alloc _⟩
      case measure => simp [intOf]
    · go_wp2_with fail
      go_roundw
      case rel => exact ⟨2, by omega, rfl, HK.out.alloc _⟩
      case measure => simp [intOf]
    · go_wp2_with fail
      go_roundw
      case rel => exact ⟨3, by omega, rfl, HK.out.alloc _⟩
      case measure => simp [intOf]
    · go_wp2_with fail
      go_roundw
      case rel => exact ⟨4, by omega, rfl, HK.out.alloc _⟩
      case measure => simp [intOf]
    · go_wp2_with fail
      go_roundw
      case rel => exact ⟨5, by omega, rfl, HK.out.alloc _⟩
      case measure => simp [intOf]
    · go_wp2_with fail
      go_roundw
      case rel => exact ⟨6, by omega, rfl, HK.out.alloc _⟩
      case measure => simp [intOf]
    · go_wp2_with fail
      (try simp only [Exit.inBlock, Exit.then]); refine bodyPost_ret (results_iv rfl _ _ (gz) 58 #[_, _, _, _, _] (0, 0) _ rfl (row_set5 hr.out _ _ _ _ _) Tryz.underlying58 rfl infoO) rfl ?_
      exact ⟨rfl, Ok.set (Ok.set (Ok.set (Ok.set (Ok.set (HW.out.step HK.out) (show w0.heap.size ≤ gz by omega) _) (show w0.heap.size ≤ gz by omega) _) (show w0.heap.size ≤ gz by omega) _) (show w0.heap.size ≤ gz by omega) _) (show w0.heap.size ≤ gz by omega) _⟩
set_option maxRecDepth 100000 in
set_option maxHeartbeats 4000000 in
theorem napply_none (op : Int) (ho : ¬ Op6 op) (a b : Int × Int × Nat × Nat × Bool) (w0 w : World) (hok : Ok w0 w) :
    Calls Tryz.prog 7 #[.int .i64 op, nv a, nv b] w fun e w' => e = .returned (.tuple #[nv zeroN, .int .i64 1]) ∧ Ok w0 w' := by
  have hle := hok.le
  obtain ⟨ans, hans⟩ : ∃ t, t = nv zeroN := ⟨_, rfl⟩
  rw [← hans]
  have HS : Hid _ := hans
  clear hans
  unfold nv
  go_enter Tryz.func7, Tryz.ntmps7
  go_wp2_with fail
  obtain ⟨W, hW⟩ : ∃ W, W = (((w).alloc (.cells #[.bool a.2.2.2.2, .int .i64 a.1, .int .i64 a.2.1, .int .u64 (a.2.2.1 : Int), .int .u64 (a.2.2.2.1 : Int)] 29)).alloc (.cells #[.bool b.2.2.2.2, .int .i64 b.1, .int .i64 b.2.1, .int .u64 (b.2.2.1 : Int), .int .u64 (b.2.2.2.1 : Int)] 29)).alloc (.cells #[.bool false, .int .i64 0, .int .i64 0, .int .u64 0, .int .u64 0] 29) := ⟨_, rfl⟩
  have rz : Hid (W.heap[w.heap.size + 1 + 1]? = some (.cells #[.bool false, .int .i64 0, .int .i64 0, .int .u64 0, .int .u64 0] 29)) := by unfold Hid; rw [hW]; exact (by repeat (first | (refine heap_at _ _ _ ?hx; case hx => (first | (simp; done) | (simp; omega))) | (refine heap_past _ _ _ ?hy ?_; case hy => (first | (simp; done) | (simp; omega))) | fail))
  have HW : Hid (Ok w0 W) := by unfold Hid; rw [hW]; exact (by repeat (first | exact hok | refine Ok.alloc ?_ _ | refine Ok.draws ?_ _ | fail))
  rw [← hW]
  clear hW
  obtain ⟨gz, egz⟩ : ∃ g, g = w.heap.size + 1 + 1 := ⟨_, rfl⟩
  rw [← egz] at rz ⊢
  have lgz : w0.heap.size ≤ gz := by omega
  clear egz
  refine (find_none op ho W _ (Ok.refl _)).mono ?_
  rintro e w1 ⟨rfl, hb⟩
  replace rz : Hid _ := Ok.row' hb rz.out
  have Hw1 : Hid (Ok w0 w1) := HW.out.step hb
  clear hb
  have s3 := lt_row rz.out
  have n1 : ¬ w1.heap.size = gz := by omega
  have n2 : ¬ gz = w1.heap.size := by omega
  obtain ⟨k0, k1, k2, k3, k4, k5, k6, k7, k8, k9⟩ := row5_facts rz.out
  go_wp2_with fail
  (try simp only [Exit.inBlock, Exit.then]); refine bodyPost_ret (results_iv rfl _ _ (gz) 29 #[_, _, _, _, _] (0, 0) _ rfl (heap_past _ _ _ (lt_row (row_set5 rz.out _ _ _ _ _)) (row_set5 rz.out _ _ _ _ _)) Tryz.underlying29 rfl infoN) rfl ?_
  exact ⟨by rw [HS.out]; rfl, Ok.alloc (Ok.set (Ok.set (Ok.set (Ok.set (Ok.set (Hw1.out) (show w0.heap.size ≤ gz by omega) _) (show w0.heap.size ≤ gz by omega) _) (show w0.heap.size ≤ gz by omega) _) (show w0.heap.size ≤ gz by omega) _) (show w0.heap.size ≤ gz by omega) _) _⟩
set_option maxRecDepth 100000 in
set_option maxHeartbeats 4000000 in
theorem rapply_none (op : Int) (ho : ¬ Op6 op) (a b : Int × Int × Nat × Nat × Bool) (w0 w : World) (hok : Ok w0 w) :
    Calls Tryz.prog 8 #[.int .i64 op, nv a, nv b] w fun e w' => e = .returned (.tuple #[nv zeroN, .int .i64 1]) ∧ Ok w0 w' := by
  have hle := hok.le
  obtain ⟨ans, hans⟩ : ∃ t, t = nv zeroN := ⟨_, rfl⟩
  rw [← hans]
  have HS : Hid _ := hans
  clear hans
  obtain ⟨h1, h3, h4, h5, h6, h7⟩ := no6 ho
  clear ho
  have e1 : (op != 1) = true := by simpa using h1
  have e3 : (op != 3) = true := by simpa using h3
  have e4 : (op != 4) = true := by simpa using h4
  have e5 : (op != 5) = true := by simpa using h5
  have e6 : (op != 6) = true := by simpa using h6
  have e7 : (op != 7) = true := by simpa using h7
  have g3 : (op != 1 && op != 3) = true := by simp only [e3, e1, Bool.and_self]
  have g4 : ((op != 1 && op != 3) && op != 4) = true := by simp only [e4, g3, Bool.and_self]
  have g5 : (((op != 1 && op != 3) && op != 4) && op != 5) = true := by simp only [e5, g4, Bool.and_self]
  have g6 : ((((op != 1 && op != 3) && op != 4) && op != 5) && op != 6) = true := by simp only [e6, g5, Bool.and_self]
  have g7 : (((((op != 1 && op != 3) && op != 4) && op != 5) && op != 6) && op != 7) = true := by simp only [e7, g6, Bool.and_self]
  clear h1 h3 h4 h5 h6 h7
  unfold nv
  go_enter Tryz.func8, Tryz.ntmps8
  go_wp2_with fail
  obtain ⟨W, hW⟩ : ∃ W, W = (((w).alloc (.cells #[.bool a.2.2.2.2, .int .i64 a.1, .int .i64 a.2.1, .int .u64 (a.2.2.1 : Int), .int .u64 (a.2.2.2.1 : Int)] 29)).alloc (.cells #[.bool b.2.2.2.2, .int .i64 b.1, .int .i64 b.2.1, .int .u64 (b.2.2.1 : Int), .int .u64 (b.2.2.2.1 : Int)] 29)).alloc (.cells #[.bool false, .int .i64 0, .int .i64 0, .int .u64 0, .int .u64 0] 29) := ⟨_, rfl⟩
  have hr : Hid (W.heap[w.heap.size + 1 + 1]? = some (.cells #[.bool false, .int .i64 0, .int .i64 0, .int .u64 0, .int .u64 0] 29)) := by unfold Hid; rw [hW]; exact (by repeat (first | (refine heap_at _ _ _ ?hx; case hx => (first | (simp; done) | (simp; omega))) | (refine heap_past _ _ _ ?hy ?_; case hy => (first | (simp; done) | (simp; omega))) | fail))
  have HW : Hid (Ok w0 W) := by unfold Hid; rw [hW]; exact (by repeat (first | exact hok | refine Ok.alloc ?_ _ | refine Ok.draws ?_ _ | fail))
  rw [← hW]
  clear hW
  (try simp only [Exit.inBlock, Exit.then]); refine bodyPost_ret (results_iv rfl _ _ (w.heap.size + 1 + 1) 29 #[_, _, _, _, _] (0, 0) _ rfl hr.out Tryz.underlying29 rfl infoN) rfl ?_
  exact ⟨by rw [HS.out]; rfl, HW.out⟩
/-- What both Applys answer. -/
theorem apply_both (op : Int) (a b : Int × Int × Nat × Nat × Bool) (ha : RawN a) (hb : RawN b) : ∃ (g : Int × Int × Nat × Nat × Bool) (e : Int),
    (∀ w0 w, Ok w0 w → Calls Tryz.prog 7 #[.int .i64 op, nv a, nv b] w fun y w' => y = .returned (.tuple #[nv g, .int .i64 e]) ∧ Ok w0 w') ∧
    (∀ w0 w, Ok w0 w → Calls Tryz.prog 8 #[.int .i64 op, nv a, nv b] w fun y w' => y = .returned (.tuple #[nv g, .int .i64 e]) ∧ Ok w0 w') := by
  by_cases ho : Op6 op
  · exact ⟨apN op a b, 0, fun w0 w h => napply_op op ho a b ha hb w0 w h, fun w0 w h => by
      rcases ho with h1 | h1 | h1 | h1 | h1 | h1
      · exact rapply_a op (Or.inl h1) a b ha hb w0 w h
      · exact rapply_a op (Or.inr (Or.inl h1)) a b ha hb w0 w h
      · exact rapply_a op (Or.inr (Or.inr h1)) a b ha hb w0 w h
      · exact rapply_e op (Or.inl h1) a b ha hb w0 w h
      · exact rapply_e op (Or.inr (Or.inl h1)) a b ha hb w0 w h
      · exact rapply_e op (Or.inr (Or.inr h1)) a b ha hb w0 w h⟩
  · exact ⟨zeroN, 1, fun w0 w h => napply_none op ho a b w0 w h, fun w0 w h => rapply_none op ho a b w0 w h⟩
end Go.Proofs.YtpjpjhjjhoeijaaGreat
