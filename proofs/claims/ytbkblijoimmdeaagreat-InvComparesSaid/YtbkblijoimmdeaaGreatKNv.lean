import Derived.Test.YtbkblijoimmdeaaGreatRows
import Derived.WalkKit
import Derived.WalkSpells
import Derived.WalkSmall
import Derived.Deep.QuietTactic
import Derived.BigQuiet
import Derived.Test.YtbkblijoimmdeaaGreatKCdef
import Derived.Test.YtbkblijoimmdeaaGreatKCok
import Derived.Test.YtbkblijoimmdeaaGreatKKa
import Derived.Test.YtbkblijoimmdeaaGreatKNset
set_option linter.unusedVariables false
set_option linter.unusedSimpArgs false
set_option linter.unnecessarySimpa false
/- Idiv Iref Iwh Isp Nv -/
namespace Go.Proofs.YtbkblijoimmdeaaGreat
section
open Go.RowKit

/- Quotients: x.tdiv y with y above 0, or below. -/
def min4 (p q r s : Int) : Int := min (min p q) (min r s)
def max4 (p q r s : Int) : Int := max (max p q) (max r s)
end
section
open Go.RowKit
theorem infoI : (Tryz.prog.info? 24).map (·.size) = some 2 := by kernel_rfl
set_option maxHeartbeats 400000 in
theorem rnone_any (w : World) :
    Calls Tryz.prog 102 #[] w fun e w' => e = .returned (.agg #[.int .i64 1, .int .i64 0]) ∧ w' = w.alloc (.cells #[.int .i64 1, .int .i64 0] 24) := by
  go_enter Tryz.func102, Tryz.ntmps102
  go_wp2
  try simp only [Exit.inBlock, Exit.then]
  refine bodyPost_ret (results_cell_row rfl _ _ w.heap.size 24 _ (0, 0) _ rfl (heap_new0 _ _) Tryz.underlying24 rfl infoI) rfl ?_
  exact ⟨rfl, rfl⟩
set_option maxHeartbeats 400000 in
theorem rnormal_yes (l h : Int) (w : World) (hc : h < l) :
    Calls Tryz.prog 66 #[.agg #[.int .i64 l, .int .i64 h]] w fun e w' => e = .returned (.agg #[.int .i64 (normI l h).1, .int .i64 (normI l h).2]) ∧ w' = (((w.alloc (.cells #[.int .i64 l, .int .i64 h] 24)).alloc (.cells #[.int .i64 1, .int .i64 0] 24)).alloc (.cells #[.int .i64 l, .int .i64 h] 24)).alloc (.cells #[.int .i64 1, .int .i64 0] 24) := by
  have E : Hid (normI l h = (1, 0)) := by unfold Hid normI; rw [if_pos hc]
  go_enter Tryz.func66, Tryz.ntmps66
  go_wp2_with (first | (go_at_call 102; refine (rnone_any _).mono ?_; rintro e w' ⟨rfl, rfl⟩) | go_in)
  try simp only [Exit.inBlock, Exit.then]
  refine bodyPost_ret (results_cell_row rfl _ _ (w.heap.size + 1) 24 #[_, _] (0, 0) _ rfl (by repeat (first | (refine heap_at _ _ _ ?hx; case hx => (simp; done)) | (refine heap_past _ _ _ ?hy ?_; case hy => (simp; done)) | fail)) Tryz.underlying24 rfl infoI) rfl ?_
  exact ⟨reti E.out, rfl⟩
set_option maxHeartbeats 400000 in
theorem rnormal_no (l h : Int) (w : World) (hc : l ≤ h) :
    Calls Tryz.prog 66 #[.agg #[.int .i64 l, .int .i64 h]] w fun e w' => e = .returned (.agg #[.int .i64 (normI l h).1, .int .i64 (normI l h).2]) ∧ w' = ((w.alloc (.cells #[.int .i64 l, .int .i64 h] 24)).alloc (.cells #[.int .i64 l, .int .i64 h] 24)).alloc (.cells #[.int .i64 l, .int .i64 h] 24) := by
  have E : Hid (normI l h = (l, h)) := by unfold Hid normI; rw [if_neg (by omega)]
  go_enter Tryz.func66, Tryz.ntmps66
  go_wp2_with (first | (go_at_call 102; refine (rnone_any _).mono ?_; rintro e w' ⟨rfl, rfl⟩) | go_in)
  try simp only [Exit.inBlock, Exit.then]
  refine bodyPost_ret (results_cell_row rfl _ _ (w.heap.size + 1) 24 #[_, _] (0, 0) _ rfl (by repeat (first | (refine heap_at _ _ _ ?hx; case hx => (simp; done)) | (refine heap_past _ _ _ ?hy ?_; case hy => (simp; done)) | fail)) Tryz.underlying24 rfl infoI) rfl ?_
  exact ⟨reti E.out, rfl⟩
end
section
open Go.RowKit
def hiW (z : Int) : Int := z / 18446744073709551616
def loW (z : Int) : Int := z % 18446744073709551616
end
section
open Go.RowKit
set_option maxHeartbeats 400000 in
theorem rempty_ex (l h : Int) (w : World) :
    Calls Tryz.prog 54 #[.agg #[.int .i64 l, .int .i64 h]] w fun e w' => e = .returned (.bool (decide (h < l))) ∧ w' = w.alloc (.cells #[.int .i64 l, .int .i64 h] 24) := by
  go_enter Tryz.func54, Tryz.ntmps54
  go_wp2
  go_ret
  exact ⟨rfl, rfl⟩
theorem wlo (z : Int) : wrap64 (loW z) = wrap64 z := by unfold loW wrap64; omega
end
section
open Go.RowKit
theorem infoN : (Tryz.prog.info? 29).map (·.size) = some 5 := by kernel_rfl
/-- A Num as it is handed over. -/
def nv (a : Int × Int × Nat × Nat × Bool) : Value := .agg #[.bool a.2.2.2.2, .int .i64 a.1, .int .i64 a.2.1, .int .u64 (a.2.2.1 : Int), .int .u64 (a.2.2.2.1 : Int)]
def nc (a : Int × Int × Nat × Nat × Bool) : Array Value := #[.bool a.2.2.2.2, .int .i64 a.1, .int .i64 a.2.1, .int .u64 (a.2.2.1 : Int), .int .u64 (a.2.2.2.1 : Int)]
theorem row5_facts {w : World} {g : Nat} {x y z u v : Value} {t : TypeId} (h : w.heap[g]? = some (.cells #[x, y, z, u, v] t (0, 0))) :
    w.cell? ⟨g, 0, none⟩ = some x ∧ w.cell? ⟨g, 1, none⟩ = some y ∧ w.cell? ⟨g, 2, none⟩ = some z ∧ w.cell? ⟨g, 3, none⟩ = some u ∧ w.cell? ⟨g, 4, none⟩ = some v ∧ w.frozen? ⟨g, 0, none⟩ = false ∧ w.frozen? ⟨g, 1, none⟩ = false ∧ w.frozen? ⟨g, 2, none⟩ = false ∧ w.frozen? ⟨g, 3, none⟩ = false ∧ w.frozen? ⟨g, 4, none⟩ = false := by
  refine ⟨?_, ?_, ?_, ?_, ?_, frozen_of_row _ _ _ _ _ h, frozen_of_row _ _ _ _ _ h, frozen_of_row _ _ _ _ _ h, frozen_of_row _ _ _ _ _ h, frozen_of_row _ _ _ _ _ h⟩
  · exact (cell_of_row _ _ 0 _ _ _ h).trans (by simp)
  · exact (cell_of_row _ _ 1 _ _ _ h).trans (by simp)
  · exact (cell_of_row _ _ 2 _ _ _ h).trans (by simp)
  · exact (cell_of_row _ _ 3 _ _ _ h).trans (by simp)
  · exact (cell_of_row _ _ 4 _ _ _ h).trans (by simp)
theorem row_set5 {w : World} {g : Nat} {x y z u v : Value} {t : TypeId} (h : w.heap[g]? = some (.cells #[x, y, z, u, v] t (0, 0))) (x' y' z' u' v' : Value) :
    (((((w.setCell ⟨g, 0, none⟩ x').setCell ⟨g, 1, none⟩ y').setCell ⟨g, 2, none⟩ z').setCell ⟨g, 3, none⟩ u').setCell ⟨g, 4, none⟩ v').heap[g]? = some (.cells #[x', y', z', u', v'] t (0, 0)) := by
  have h1 := heap_setCell_same w g 0 _ t x' h
  have h2 := heap_setCell_same _ g 1 _ t y' h1
  have h3 := heap_setCell_same _ g 2 _ t z' h2
  have h4 := heap_setCell_same _ g 3 _ t u' h3
  have h5 := heap_setCell_same _ g 4 _ t v' h4
  simpa using h5
set_option maxHeartbeats 400000 in
theorem nbot_any (w0 w : World) (hok : Ok w0 w) :
    Calls Tryz.prog 24 #[] w fun e w' => e = .returned (nv botN) ∧ Ok w0 w' := by
  go_enter Tryz.func24, Tryz.ntmps24
  go_wp2_with fail
  (try simp only [Exit.inBlock, Exit.then]); refine bodyPost_ret (results_cell_row rfl _ _ (w.heap.size) 29 #[_, _, _, _, _] (0, 0) _ rfl (by repeat (first | (refine heap_at _ _ _ ?hx; case hx => (first | (simp; done) | (simp; omega))) | (refine heap_past _ _ _ ?hy ?_; case hy => (first | (simp; done) | (simp; omega))) | fail)) Tryz.underlying29 rfl infoN) rfl ?_
  exact ⟨rfl, hok.alloc _⟩
set_option maxHeartbeats 400000 in
theorem rbot_any (w0 w : World) (hok : Ok w0 w) :
    Calls Tryz.prog 12 #[] w fun e w' => e = .returned (nv botN) ∧ Ok w0 w' := by
  go_enter Tryz.func12, Tryz.ntmps12
  go_wp2_with fail
  (try simp only [Exit.inBlock, Exit.then]); refine bodyPost_ret (results_cell_row rfl _ _ (w.heap.size) 29 #[_, _, _, _, _] (0, 0) _ rfl (by repeat (first | (refine heap_at _ _ _ ?hx; case hx => (first | (simp; done) | (simp; omega))) | (refine heap_past _ _ _ ?hy ?_; case hy => (first | (simp; done) | (simp; omega))) | fail)) Tryz.underlying29 rfl infoN) rfl ?_
  exact ⟨rfl, hok.alloc _⟩
set_option maxHeartbeats 400000 in
theorem every_any (w0 w : World) (hok : Ok w0 w) :
    Calls Tryz.prog 134 #[] w fun e w' => e = .returned (cv 1 0) ∧ Ok w0 w' := by
  go_enter Tryz.func134, Tryz.ntmps134
  go_wp2_with fail
  (try simp only [Exit.inBlock, Exit.then]); refine bodyPost_ret (results_cell_row rfl _ _ (w.heap.size) 27 #[_, _] (0, 0) _ rfl (by repeat (first | (refine heap_at _ _ _ ?hx; case hx => (first | (simp; done) | (simp; omega))) | (refine heap_past _ _ _ ?hy ?_; case hy => (first | (simp; done) | (simp; omega))) | fail)) Tryz.underlying27 rfl infoCg) rfl ?_
  exact ⟨rfl, hok.alloc _⟩
set_option maxHeartbeats 400000 in
theorem rall_any (w0 w : World) (hok : Ok w0 w) :
    Calls Tryz.prog 42 #[] w fun e w' => e = .returned (cv 1 0) ∧ Ok w0 w' := by
  go_enter Tryz.func42, Tryz.ntmps42
  go_wp2_with fail
  (try simp only [Exit.inBlock, Exit.then]); refine bodyPost_ret (results_cell_row rfl _ _ (w.heap.size) 27 #[_, _] (0, 0) _ rfl (by repeat (first | (refine heap_at _ _ _ ?hx; case hx => (first | (simp; done) | (simp; omega))) | (refine heap_past _ _ _ ?hy ?_; case hy => (first | (simp; done) | (simp; omega))) | fail)) Tryz.underlying27 rfl infoCg) rfl ?_
  exact ⟨rfl, hok.alloc _⟩
set_option maxHeartbeats 400000 in
theorem nconst_any (v : Int) (w0 w : World) (hok : Ok w0 w) :
    Calls Tryz.prog 46 #[.int .i64 v] w fun e w' => e = .returned (nv (constN v)) ∧ Ok w0 w' := by
  have hle := hok.le
  go_enter Tryz.func46, Tryz.ntmps46
  go_wp2_with fail
  refine (pconst_any v _ _ (Ok.refl _)).mono ?_
  rintro e w' ⟨rfl, hb⟩
  have hr : Hid _ := Ok.row' (g := w.heap.size) (o := .cells #[.bool false, .int .i64 0, .int .i64 0, .int .u64 0, .int .u64 0] 29) hb (by repeat (first | (refine heap_at _ _ _ ?hx; case hx => (first | (simp; done) | (simp; omega))) | (refine heap_past _ _ _ ?hy ?_; case hy => (first | (simp; done) | (simp; omega))) | fail)); obtain ⟨k0, k1, k2, k3, k4, k5, k6, k7, k8, k9⟩ := row5_facts hr.out
  unfold cv
  go_wp2_with fail
  (try simp only [Exit.inBlock, Exit.then]); refine bodyPost_ret (results_cell_row rfl _ _ (w.heap.size) 29 #[_, _, _, _, _] (0, 0) _ rfl (row_set5 hr.out _ _ _ _ _) Tryz.underlying29 rfl infoN) rfl ?_
  exact ⟨rfl, (((((Ok.step (by repeat (first | exact hok | refine Ok.alloc ?_ _ | refine Ok.draws ?_ _ | fail)) hb).set (show w0.heap.size ≤ w.heap.size by omega) _).set (show w0.heap.size ≤ w.heap.size by omega) _).set (show w0.heap.size ≤ w.heap.size by omega) _).set (show w0.heap.size ≤ w.heap.size by omega) _).set (show w0.heap.size ≤ w.heap.size by omega) _⟩
end
end Go.Proofs.YtbkblijoimmdeaaGreat
