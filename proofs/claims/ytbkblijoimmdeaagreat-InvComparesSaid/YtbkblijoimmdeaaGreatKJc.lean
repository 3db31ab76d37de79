import Derived.Deep.RegionHeld3
import Derived.Test.YtbkblijoimmdeaaGreatKIdv
import Derived.Test.YtbkblijoimmdeaaGreatKJw
set_option linter.unusedVariables false
set_option linter.unusedSimpArgs false
set_option linter.unnecessarySimpa false
/- Jt Jc -/
namespace Go.Proofs.YtbkblijoimmdeaaGreat
section
open Go.RowKit
theorem less_lt {a b : Int} (h : tW a < tW b) : a < b := by unfold tW at h; omega
theorem less_eq {a b : Int} (h : tW a = tW b) : (wrap64 a < wrap64 b ↔ a < b) := by have := tW_eq a; have := tW_eq b; omega
theorem less_gt {a b : Int} (h : tW b < tW a) : ¬ a < b := by unfold tW at h; omega
set_option maxHeartbeats 400000 in
theorem pless_ex (a b : Int) (w : World) :
    Calls Tryz.prog 203 #[.agg #[.int .i64 (tW a), .int .i64 (wrap64 a)], .agg #[.int .i64 (tW b), .int .i64 (wrap64 b)]] w fun e w' => e = .returned (.bool (decide (a < b))) ∧ w' = (w.alloc (.cells #[.int .i64 (tW a), .int .i64 (wrap64 a)] 156)).alloc (.cells #[.int .i64 (tW b), .int .i64 (wrap64 b)] 156) := by
  have L1 : Hid _ := @less_lt a b
  have L2 : Hid _ := @less_eq a b
  have L3 : Hid _ := @less_gt a b
  generalize tW a = ta at *
  generalize tW b = tb at *
  by_cases h1 : ta < tb
  · have d1 : decide (ta < tb) = true := decide_eq_true h1
    have E : Hid (decide (a < b) = true) := decide_eq_true (L1.out h1)
    go_enter Tryz.func203, Tryz.ntmps203
    go_wp2
    go_ret
    exact ⟨retb E.out.symm, rfl⟩
  · have d1 : decide (ta < tb) = false := decide_eq_false h1
    by_cases h2 : ta = tb
    · subst h2
      have E : Hid (decide (a < b) = decide (wrap64 a < wrap64 b)) := decide_eq_decide.2 (L2.out rfl).symm
      go_enter Tryz.func203, Tryz.ntmps203
      go_wp2
      go_ret
      exact ⟨retb E.out.symm, rfl⟩
    · have h2' : (ta == tb) = false := by simpa using h2
      have E : Hid (decide (a < b) = false) := decide_eq_false (L3.out (by omega))
      go_enter Tryz.func203, Tryz.ntmps203
      go_wp2
      go_ret
      exact ⟨retb E.out.symm, rfl⟩
theorem infoS : (Tryz.prog.info? 158).map (·.size) = some 4 := by kernel_rfl
set_option maxHeartbeats 400000 in
theorem pexact_ex (lo hi : Int) (w : World) :
    Calls Tryz.prog 174 #[.agg #[.int .i64 (tW lo), .int .i64 (wrap64 lo), .int .i64 (tW hi), .int .i64 (wrap64 hi)]] w fun e w' => e = .returned (.bool (decide (In64 lo) && decide (In64 hi))) ∧ w' = w.alloc (.cells #[.int .i64 (tW lo), .int .i64 (wrap64 lo), .int .i64 (tW hi), .int .i64 (wrap64 hi)] 158) := by
  have E1 : Hid _ := tW_zero lo
  have E2 : Hid _ := tW_zero hi
  generalize tW lo = ta at *
  generalize tW hi = tb at *
  generalize decide (In64 lo) = d1 at *
  generalize decide (In64 hi) = d2 at *
  rcases h1 : (ta == 0) with _ | _
  · have E : Hid (false = (d1 && d2)) := by unfold Hid; rw [← E1.out, h1]; rfl
    go_enter Tryz.func174, Tryz.ntmps174
    go_wp2
    go_ret
    exact ⟨retb E.out, rfl⟩
  · have E : Hid ((tb == 0) = (d1 && d2)) := by unfold Hid; rw [← E1.out, h1, E2.out]; rfl
    go_enter Tryz.func174, Tryz.ntmps174
    go_wp2
    go_ret
    exact ⟨retb E.out, rfl⟩
/-- What hull answers. -/
def hullW (lo hi : Int) : Int × Int := if tW lo = tW hi then (wrap64 lo, wrap64 hi) else (-9223372036854775808, 9223372036854775807)
set_option maxHeartbeats 400000 in
theorem phull_any (lo hi : Int) (w0 w : World) (hok : Ok w0 w) :
    Calls Tryz.prog 176 #[.agg #[.int .i64 (tW lo), .int .i64 (wrap64 lo), .int .i64 (tW hi), .int .i64 (wrap64 hi)]] w fun e w' => e = .returned (.agg #[.int .i64 (hullW lo hi).1, .int .i64 (hullW lo hi).2]) ∧ Ok w0 w' := by
  by_cases h : tW lo = tW hi
  · have E : Hid (hullW lo hi = (wrap64 lo, wrap64 hi)) := if_pos h
    generalize tW lo = ta at *
    generalize tW hi = tb at *
    subst h
    go_enter Tryz.func176, Tryz.ntmps176
    go_wp2_with (first | (go_at_call 177; refine (Jpall_ex _).mono ?_; rintro e w' ⟨rfl, rfl⟩) | fail)
    (try simp only [Exit.inBlock, Exit.then]); refine bodyPost_ret (results_cell_row rfl _ _ (w.heap.size + 1) 24 #[_, _] (0, 0) _ rfl (by repeat (first | (refine heap_at _ _ _ ?hx; case hx => (first | (simp; done) | (simp; omega))) | (refine heap_past _ _ _ ?hy ?_; case hy => (first | (simp; done) | (simp; omega))) | fail)) Tryz.underlying24 rfl infoI) rfl ?_
    exact ⟨reti E.out, (by repeat (first | exact hok | refine Ok.alloc ?_ _ | refine Ok.draws ?_ _ | fail))⟩
  · have E : Hid (hullW lo hi = (-9223372036854775808, 9223372036854775807)) := if_neg h
    generalize tW lo = ta at *
    generalize tW hi = tb at *
    have h' : (ta != tb) = true := by simpa using h
    go_enter Tryz.func176, Tryz.ntmps176
    go_wp2_with (first | (go_at_call 177; refine (Jpall_ex _).mono ?_; rintro e w' ⟨rfl, rfl⟩) | fail)
    (try simp only [Exit.inBlock, Exit.then]); refine bodyPost_ret (results_cell_row rfl _ _ (w.heap.size + 1) 24 #[_, _] (0, 0) _ rfl (by repeat (first | (refine heap_at _ _ _ ?hx; case hx => (first | (simp; done) | (simp; omega))) | (refine heap_past _ _ _ ?hy ?_; case hy => (first | (simp; done) | (simp; omega))) | fail)) Tryz.underlying24 rfl infoI) rfl ?_
    exact ⟨reti E.out, (by repeat (first | exact hok | refine Ok.alloc ?_ _ | refine Ok.draws ?_ _ | fail))⟩
def retS (lo hi : Int) : Ending := .returned (.agg #[.int .i64 (tW lo), .int .i64 (wrap64 lo), .int .i64 (tW hi), .int .i64 (wrap64 hi)])
set_option maxHeartbeats 1000000 in
theorem pwith_any (lo hi z : Int) (w0 w : World) (hok : Ok w0 w) :
    Calls Tryz.prog 197 #[.agg #[.int .i64 (tW lo), .int .i64 (wrap64 lo), .int .i64 (tW hi), .int .i64 (wrap64 hi)], .agg #[.int .i64 (tW z), .int .i64 (wrap64 z)]] w fun e w' => e = retS (min lo z) (max hi z) ∧ Ok w0 w' := by
  by_cases h1 : z < lo
  · rw [show min lo z = z by omega]
    have d1 : decide (z < lo) = true := decide_eq_true h1
    by_cases h2 : hi < z
    · rw [show max hi z = z by omega]
      have d2 : decide (hi < z) = true := decide_eq_true h2
      go_enter Tryz.func197, Tryz.ntmps197
      go_wp2_with (first | (go_at_call 203; refine (pless_ex _ _ _).mono ?_; rintro e w' ⟨rfl, rfl⟩) | fail)
      (try simp only [Exit.inBlock, Exit.then]); refine bodyPost_ret (results_cell_row rfl _ _ (w.heap.size + 2) 158 #[_, _, _, _] (0, 0) _ rfl (by repeat (first | (refine heap_at _ _ _ ?hx; case hx => (first | (simp; done) | (simp; omega))) | (refine heap_past _ _ _ ?hy ?_; case hy => (first | (simp; done) | (simp; omega))) | fail)) Tryz.underlying158 rfl infoS) rfl ?_
      exact ⟨rfl, (by repeat (first | exact hok | refine Ok.alloc ?_ _ | refine Ok.draws ?_ _ | fail))⟩
    · rw [show max hi z = hi by omega]
      have d2 : decide (hi < z) = false := decide_eq_false h2
      go_enter Tryz.func197, Tryz.ntmps197
      go_wp2_with (first | (go_at_call 203; refine (pless_ex _ _ _).mono ?_; rintro e w' ⟨rfl, rfl⟩) | fail)
      (try simp only [Exit.inBlock, Exit.then]); refine bodyPost_ret (results_cell_row rfl _ _ (w.heap.size + 2) 158 #[_, _, _, _] (0, 0) _ rfl (by repeat (first | (refine heap_at _ _ _ ?hx; case hx => (first | (simp; done) | (simp; omega))) | (refine heap_past _ _ _ ?hy ?_; case hy => (first | (simp; done) | (simp; omega))) | fail)) Tryz.underlying158 rfl infoS) rfl ?_
      exact ⟨rfl, (by repeat (first | exact hok | refine Ok.alloc ?_ _ | refine Ok.draws ?_ _ | fail))⟩
  · rw [show min lo z = lo by omega]
    have d1 : decide (z < lo) = false := decide_eq_false h1
    by_cases h2 : hi < z
    · rw [show max hi z = z by omega]
      have d2 : decide (hi < z) = true := decide_eq_true h2
      go_enter Tryz.func197, Tryz.ntmps197
      go_wp2_with (first | (go_at_call 203; refine (pless_ex _ _ _).mono ?_; rintro e w' ⟨rfl, rfl⟩) | fail)
      (try simp only [Exit.inBlock, Exit.then]); refine bodyPost_ret (results_cell_row rfl _ _ (w.heap.size + 2) 158 #[_, _, _, _] (0, 0) _ rfl (by repeat (first | (refine heap_at _ _ _ ?hx; case hx => (first | (simp; done) | (simp; omega))) | (refine heap_past _ _ _ ?hy ?_; case hy => (first | (simp; done) | (simp; omega))) | fail)) Tryz.underlying158 rfl infoS) rfl ?_
      exact ⟨rfl, (by repeat (first | exact hok | refine Ok.alloc ?_ _ | refine Ok.draws ?_ _ | fail))⟩
    · rw [show max hi z = hi by omega]
      have d2 : decide (hi < z) = false := decide_eq_false h2
      go_enter Tryz.func197, Tryz.ntmps197
      go_wp2_with (first | (go_at_call 203; refine (pless_ex _ _ _).mono ?_; rintro e w' ⟨rfl, rfl⟩) | fail)
      (try simp only [Exit.inBlock, Exit.then]); refine bodyPost_ret (results_cell_row rfl _ _ (w.heap.size + 2) 158 #[_, _, _, _] (0, 0) _ rfl (by repeat (first | (refine heap_at _ _ _ ?hx; case hx => (first | (simp; done) | (simp; omega))) | (refine heap_past _ _ _ ?hy ?_; case hy => (first | (simp; done) | (simp; omega))) | fail)) Tryz.underlying158 rfl infoS) rfl ?_
      exact ⟨rfl, (by repeat (first | exact hok | refine Ok.alloc ?_ _ | refine Ok.draws ?_ _ | fail))⟩
end
section
open Go.RowKit
/-- An operation on numbers, at the corners. -/
def OpAt (f : Nat) (al ah bl bh : Int) (W : Int → Int → Int) : Prop :=
  ∀ x y, (x = al ∨ x = ah) → (y = bl ∨ y = bh) → ∀ w0 w, Ok w0 w → Calls Tryz.prog f #[.int .i64 x, .int .i64 y] w fun e w' => e = .returned (.agg #[.int .i64 (tW (W x y)), .int .i64 (wrap64 (W x y))]) ∧ Ok w0 w'
def rowS (lo hi : Int) : Obj := .cells #[.int .i64 (tW lo), .int .i64 (wrap64 lo), .int .i64 (tW hi), .int .i64 (wrap64 hi)] 158
def ThrInv (w wr : World) (g8 : Nat) (lo hi : Int) : Prop :=
  Ok w wr ∧ wr.heap[w.heap.size + 2]? = some (.cells #[.int .i64 0, .int .i64 0, .int .i64 0, .int .i64 0] 158) ∧ wr.heap[g8]? = some (rowS lo hi) ∧ w.heap.size + 2 < g8
/-- The corners, and the ends of what they gave so far. -/
def cX (al ah : Int) : Nat → Int
  | 0 => al
  | 1 => al
  | _ => ah
def cY (bl bh : Int) : Nat → Int
  | 0 => bl
  | 1 => bh
  | 2 => bl
  | _ => bh
def cL (W : Int → Int → Int) (al ah bl bh : Int) : Nat → Int
  | 0 => W al bl
  | k + 1 => min (cL W al ah bl bh k) (W (cX al ah k) (cY bl bh k))
def cH (W : Int → Int → Int) (al ah bl bh : Int) : Nat → Int
  | 0 => W al bl
  | k + 1 => max (cH W al ah bl bh k) (W (cX al ah k) (cY bl bh k))
theorem row_facts4 {w : World} {g : Nat} {a b c d : Value} {t : TypeId} (h : w.heap[g]? = some (.cells #[a, b, c, d] t (0, 0))) :
    (w.cell? ⟨g, 0, none⟩ = some a ∧ w.cell? ⟨g, 1, none⟩ = some b ∧ w.cell? ⟨g, 2, none⟩ = some c ∧ w.cell? ⟨g, 3, none⟩ = some d) ∧ w.frozen? ⟨g, 0, none⟩ = false ∧ w.frozen? ⟨g, 1, none⟩ = false ∧ w.frozen? ⟨g, 2, none⟩ = false ∧ w.frozen? ⟨g, 3, none⟩ = false := by
  refine ⟨⟨?_, ?_, ?_, ?_⟩, frozen_of_row _ _ _ _ _ h, frozen_of_row _ _ _ _ _ h, frozen_of_row _ _ _ _ _ h, frozen_of_row _ _ _ _ _ h⟩
  · exact (cell_of_row _ _ 0 _ _ _ h).trans (by simp)
  · exact (cell_of_row _ _ 1 _ _ _ h).trans (by simp)
  · exact (cell_of_row _ _ 2 _ _ _ h).trans (by simp)
  · exact (cell_of_row _ _ 3 _ _ _ h).trans (by simp)
theorem Jrow_set4 {w : World} {g : Nat} {a b c d : Value} {t : TypeId} (hg : w.heap[g]? = some (.cells #[a, b, c, d] t (0, 0))) (x y z u : Value) : ((((w.setCell ⟨g, 0, none⟩ x).setCell ⟨g, 1, none⟩ y).setCell ⟨g, 2, none⟩ z).setCell ⟨g, 3, none⟩ u).heap[g]? = some (.cells #[x, y, z, u] t (0, 0)) := by
  have h1 : (w.setCell ⟨g, 0, none⟩ x).heap[g]? = some (.cells #[x, b, c, d] t (0, 0)) := by simpa using heap_setCell_same w g 0 _ t x hg
  have h2 : ((w.setCell ⟨g, 0, none⟩ x).setCell ⟨g, 1, none⟩ y).heap[g]? = some (.cells #[x, y, c, d] t (0, 0)) := by simpa using heap_setCell_same _ g 1 _ t y h1
  have h3 : (((w.setCell ⟨g, 0, none⟩ x).setCell ⟨g, 1, none⟩ y).setCell ⟨g, 2, none⟩ z).heap[g]? = some (.cells #[x, y, z, d] t (0, 0)) := by simpa using heap_setCell_same _ g 2 _ t z h2
  simpa using heap_setCell_same _ g 3 _ t u h3
theorem ThrInv.next {w wr w3 : World} {g8 : Nat} {lo hi l h : Int} (H : ThrInv w wr g8 lo hi) (hb : Ok wr w3) :
    ThrInv w ((((w3.setCell ⟨g8, 0, none⟩ (.int .i64 (tW l))).setCell ⟨g8, 1, none⟩ (.int .i64 (wrap64 l))).setCell ⟨g8, 2, none⟩ (.int .i64 (tW h))).setCell ⟨g8, 3, none⟩ (.int .i64 (wrap64 h))) g8 l h := by
  obtain ⟨r1, r2, r3, r4⟩ := H
  have r3' := Ok.row' hb r3
  have hg : w.heap.size ≤ g8 := by omega
  refine ⟨((((r1.step hb).set hg _).set hg _).set hg _).set hg _, ?_, Jrow_set4 r3' _ _ _ _, r4⟩
  rw [heap_setCell_other _ _ _ _ (show w.heap.size + 2 ≠ g8 by omega), heap_setCell_other _ _ _ _ (show w.heap.size + 2 ≠ g8 by omega), heap_setCell_other _ _ _ _ (show w.heap.size + 2 ≠ g8 by omega), heap_setCell_other _ _ _ _ (show w.heap.size + 2 ≠ g8 by omega)]
  exact Ok.row' hb r2
theorem pwith_is (lo hi z : Int) (w0 w : World) (hok : Ok w0 w) :
    Calls Tryz.prog 197 #[.agg #[.int .i64 (tW lo), .int .i64 (wrap64 lo), .int .i64 (tW hi), .int .i64 (wrap64 hi)], .agg #[.int .i64 (tW z), .int .i64 (wrap64 z)]] w fun e w' => e = .returned (.agg #[.int .i64 (tW (min lo z)), .int .i64 (wrap64 (min lo z)), .int .i64 (tW (max hi z)), .int .i64 (wrap64 (max hi z))]) ∧ Ok w0 w' := pwith_any lo hi z w0 w hok
theorem idx0 (a b c d e f g h : Int) (w : World) : (Instr.index 174 (.agg #[.int .i64 a, .int .i64 b, .int .i64 c, .int .i64 d, .int .i64 e, .int .i64 f, .int .i64 g, .int .i64 h]) (.int .i64 0)).run Tryz.prog w = .ok (.agg #[.int .i64 a, .int .i64 b]) w := by kernel_rfl
theorem idx1 (a b c d e f g h : Int) (w : World) : (Instr.index 174 (.agg #[.int .i64 a, .int .i64 b, .int .i64 c, .int .i64 d, .int .i64 e, .int .i64 f, .int .i64 g, .int .i64 h]) (.int .i64 1)).run Tryz.prog w = .ok (.agg #[.int .i64 c, .int .i64 d]) w := by kernel_rfl
theorem idx2 (a b c d e f g h : Int) (w : World) : (Instr.index 174 (.agg #[.int .i64 a, .int .i64 b, .int .i64 c, .int .i64 d, .int .i64 e, .int .i64 f, .int .i64 g, .int .i64 h]) (.int .i64 2)).run Tryz.prog w = .ok (.agg #[.int .i64 e, .int .i64 f]) w := by kernel_rfl
theorem idx3 (a b c d e f g h : Int) (w : World) : (Instr.index 174 (.agg #[.int .i64 a, .int .i64 b, .int .i64 c, .int .i64 d, .int .i64 e, .int .i64 f, .int .i64 g, .int .i64 h]) (.int .i64 3)).run Tryz.prog w = .ok (.agg #[.int .i64 g, .int .i64 h]) w := by kernel_rfl
end
end Go.Proofs.YtbkblijoimmdeaaGreat
