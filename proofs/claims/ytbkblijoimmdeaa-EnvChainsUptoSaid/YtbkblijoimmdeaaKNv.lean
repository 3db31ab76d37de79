import Derived.Test.YtbkblijoimmdeaaKIref
import Derived.Test.YtbkblijoimmdeaaKKa
import Derived.Test.YtbkblijoimmdeaaKNset
set_option linter.unusedVariables false
set_option linter.unusedSimpArgs false
set_option linter.unnecessarySimpa false
/- Nv -/
namespace Go.Proofs.Ytbkblijoimmdeaa
open Go.RowKit
theorem infoN : (Try.prog.info? 46).map (·.size) = some 5 := by kernel_rfl
/-- A Num as it is handed over. -/
def nv (a : Int × Int × Nat × Nat × Bool) : Value := .agg #[.bool a.2.2.2.2, .int .i64 a.1, .int .i64 a.2.1, .int .u64 (a.2.2.1 : Int), .int .u64 (a.2.2.2.1 : Int)]
def nc (a : Int × Int × Nat × Nat × Bool) : Array Value := #[.bool a.2.2.2.2, .int .i64 a.1, .int .i64 a.2.1, .int .u64 (a.2.2.1 : Int), .int .u64 (a.2.2.2.1 : Int)]
theorem row5_facts {w : World} {g : Nat} {x y z u v : Value} {t : TypeId} (h : w.heap[g]? = some (.cells #[x, y, z, u, v] t (0, 0))) :
    w.cell? ⟨g, 0, none⟩ = some x ∧ w.cell? ⟨g, 1, none⟩ = some y ∧ w.cell? ⟨g, 2, none⟩ = some z ∧ w.cell? ⟨g, 3, none⟩ = some u ∧ w.cell? ⟨g, 4, none⟩ = some v ∧ w.frozen? ⟨g, 0, none⟩ = false ∧ w.frozen? ⟨g, 1, none⟩ = false ∧ w.frozen? ⟨g, 2, none⟩ = false ∧ w.frozen? ⟨g, 3, none⟩ = false ∧ w.frozen? ⟨g, 4, none⟩ = false := by
  refine ⟨?_, ?_, ?_, ?_, ?_, frozen_of_row _ _ _ _ _ h, frozen_of_row _ _ _ _ _ h, frozen_of_row _ _ _ _ _ h, frozen_of_row _ _ _ _ _ h, frozen_of_row _ _ _ _ _ h⟩
  · exact (cell_of_row _ _ 0 _ _ _ h).trans (by simp)
  · exact (cell_of_row _ _ 1 _ _ _ h).trans (by simp)
  · exact (cell_of_row _ _ 2 _ _ _ h).trans (by simp)
  · exact (cell_of_row _ _ 3 _ _ _ h).trans (by simp)
  · exact (cell_of_row _ _ 4 _ _ _ h).trans (by simp)
theorem row_set5 {w : World} {g : Nat} {x y z u v : Value} {t : TypeId} (h : w.heap[g]? = some (.cells #[x, y, z, u, v] t (0, 0))) (x' y' z' u' v' : Value) :
    (((((w.setCell ⟨g, 0, none⟩ x').setCell ⟨g, 1, none⟩ y').setCell ⟨g, 2, none⟩ z').setCell ⟨g, 3, none⟩ u').setCell ⟨g, 4, none⟩ v').heap[g]? = some (.cells #[x', y', z', u', v'] t (0, 0)) := by
  have h1 := heap_setCell_same w g 0 _ t x' h
  have h2 := heap_setCell_same _ g 1 _ t y' h1
  have h3 := heap_setCell_same _ g 2 _ t z' h2
  have h4 := heap_setCell_same _ g 3 _ t u' h3
  have h5 := heap_setCell_same _ g 4 _ t v' h4
  simpa using h5
set_option maxHeartbeats 400000 in
theorem nbot_any (w0 w : World) (hok : Ok w0 w) :
    Calls Try.prog 47 #[] w fun e w' => e = .returned (nv botN) ∧ Ok w0 w' := by
  go_enter Try.func47, Try.ntmps47
  go_wp2_with fail
  (try simp only [Exit.inBlock, Exit.then]); refine bodyPost_ret (results_cell_row rfl _ _ (w.heap.size) 46 #[_, _, _, _, _] (0, 0) _ rfl (by repeat (first | (refine heap_at _ _ _ ?hx; case hx => (first | (simp; done) | (simp; omega))) | (refine heap_past _ _ _ ?hy ?_; case hy => (first | (simp; done) | (simp; omega))) | fail)) Try.underlying46 rfl infoN) rfl ?_
  exact ⟨rfl, hok.alloc _⟩
set_option maxHeartbeats 400000 in
theorem every_any (w0 w : World) (hok : Ok w0 w) :
    Calls Try.prog 36 #[] w fun e w' => e = .returned (cv 1 0) ∧ Ok w0 w' := by
  go_enter Try.func36, Try.ntmps36
  go_wp2_with fail
  (try simp only [Exit.inBlock, Exit.then]); refine bodyPost_ret (results_cell_row rfl _ _ (w.heap.size) 44 #[_, _] (0, 0) _ rfl (by repeat (first | (refine heap_at _ _ _ ?hx; case hx => (first | (simp; done) | (simp; omega))) | (refine heap_past _ _ _ ?hy ?_; case hy => (first | (simp; done) | (simp; omega))) | fail)) Try.underlying44 rfl infoCg) rfl ?_
  exact ⟨rfl, hok.alloc _⟩
set_option maxHeartbeats 400000 in
theorem nconst_any (v : Int) (w0 w : World) (hok : Ok w0 w) :
    Calls Try.prog 16 #[.int .i64 v] w fun e w' => e = .returned (nv (constN v)) ∧ Ok w0 w' := by
  have hle := hok.le
  go_enter Try.func16, Try.ntmps16
  go_wp2_with fail
  refine (pconst_any v _ _ (Ok.refl _)).mono ?_
  rintro e w' ⟨rfl, hb⟩
  have hr : Hid _ := Ok.row' (g := w.heap.size) (o := .cells #[.bool false, .int .i64 0, .int .i64 0, .int .u64 0, .int .u64 0] 46) hb (by repeat (first | (refine heap_at _ _ _ ?hx; case hx => (first | (simp; done) | (simp; omega))) | (refine heap_past _ _ _ ?hy ?_; case hy => (first | (simp; done) | (simp; omega))) | fail)); obtain ⟨k0, k1, k2, k3, k4, k5, k6, k7, k8, k9⟩ := row5_facts hr.out
  unfold cv
  go_wp2_with fail
  (try simp only [Exit.inBlock, Exit.then]); refine bodyPost_ret (results_cell_row rfl _ _ (w.heap.size) 46 #[_, _, _, _, _] (0, 0) _ rfl (row_set5 hr.out _ _ _ _ _) Try.underlying46 rfl infoN) rfl ?_
  exact ⟨rfl, (((((Ok.step (by repeat (first | exact hok | refine Ok.alloc ?_ _ | refine Ok.draws ?_ _ | fail)) hb).set (show w0.heap.size ≤ w.heap.size by omega) _).set (show w0.heap.size ≤ w.heap.size by omega) _).set (show w0.heap.size ≤ w.heap.size by omega) _).set (show w0.heap.size ≤ w.heap.size by omega) _).set (show w0.heap.size ≤ w.heap.size by omega) _⟩
end Go.Proofs.Ytbkblijoimmdeaa
