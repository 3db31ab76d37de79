import Derived.Test.YtgkbegmaffknbaaGreatHJcq
import Derived.Test.YtgkbegmaffknbaaGreatHJr
set_option linter.unusedVariables false
set_option linter.unusedSimpArgs false
set_option linter.unnecessarySimpa false
/- Je -/
namespace Go.Proofs.YtgkbegmaffknbaaGreat
open Go.RowKit
set_option maxHeartbeats 400000 in
theorem pleast_any (w0 w : World) (hok : Ok w0 w) :
    Calls Tryz.prog 189 #[] w fun e w' => e = .returned (.agg #[.int .i64 (-9223372036854775808), .int .i64 (-9223372036854775808)]) ∧ Ok w0 w' := by
  go_enter Tryz.func189, Tryz.ntmps189
  go_wp2_with (first | (go_at_call 191; refine (pupto_ex _ _).mono ?_; rintro e w' ⟨rfl, rfl⟩) | fail)
  (try simp only [Exit.inBlock, Exit.then]); refine bodyPost_ret (results_cell_row rfl _ _ (w.heap.size) 23 #[_, _] (0, 0) _ rfl (by repeat (first | (refine heap_at _ _ _ ?hx; case hx => (first | (simp; done) | (simp; omega))) | (refine heap_past _ _ _ ?hy ?_; case hy => (first | (simp; done) | (simp; omega))) | fail)) Tryz.underlying23 rfl infoI) rfl ?_
  exact ⟨rfl, (by repeat (first | exact hok | refine Ok.alloc ?_ _ | refine Ok.draws ?_ _ | fail))⟩
set_option maxHeartbeats 400000 in
theorem pbutleast_any (w0 w : World) (hok : Ok w0 w) :
    Calls Tryz.prog 190 #[] w fun e w' => e = .returned (.agg #[.int .i64 (-9223372036854775807), .int .i64 9223372036854775807]) ∧ Ok w0 w' := by
  go_enter Tryz.func190, Tryz.ntmps190
  go_wp2_with (first | (go_at_call 193; refine (pfrom_ex _ _).mono ?_; rintro e w' ⟨rfl, rfl⟩) | fail)
  (try simp only [Exit.inBlock, Exit.then]); refine bodyPost_ret (results_cell_row rfl _ _ (w.heap.size) 23 #[_, _] (0, 0) _ rfl (by repeat (first | (refine heap_at _ _ _ ?hx; case hx => (first | (simp; done) | (simp; omega))) | (refine heap_past _ _ _ ?hy ?_; case hy => (first | (simp; done) | (simp; omega))) | fail)) Tryz.underlying23 rfl infoI) rfl ?_
  exact ⟨rfl, (by repeat (first | exact hok | refine Ok.alloc ?_ _ | refine Ok.draws ?_ _ | fail))⟩
set_option maxHeartbeats 400000 in
theorem pminusone_any (w0 w : World) (hok : Ok w0 w) :
    Calls Tryz.prog 192 #[] w fun e w' => e = .returned (.agg #[.int .i64 (-1), .int .i64 (-1)]) ∧ Ok w0 w' := by
  go_enter Tryz.func192, Tryz.ntmps192
  go_wp2_with fail
  (try simp only [Exit.inBlock, Exit.then]); refine bodyPost_ret (results_cell_row rfl _ _ (w.heap.size) 23 #[_, _] (0, 0) _ rfl (by repeat (first | (refine heap_at _ _ _ ?hx; case hx => (first | (simp; done) | (simp; omega))) | (refine heap_past _ _ _ ?hy ?_; case hy => (first | (simp; done) | (simp; omega))) | fail)) Tryz.underlying23 rfl infoI) rfl ?_
  exact ⟨rfl, (by repeat (first | exact hok | refine Ok.alloc ?_ _ | refine Ok.draws ?_ _ | fail))⟩
theorem pupto_any (v : Int) (w0 w : World) (hok : Ok w0 w) :
    Calls Tryz.prog 191 #[.int .i64 v] w fun e w' => e = .returned (.agg #[.int .i64 (-9223372036854775808), .int .i64 v]) ∧ Ok w0 w' := by
  refine (pupto_ex v w).mono ?_
  rintro e w' ⟨rfl, rfl⟩
  exact ⟨rfl, hok.alloc _⟩
theorem pfrom_any (v : Int) (w0 w : World) (hok : Ok w0 w) :
    Calls Tryz.prog 193 #[.int .i64 v] w fun e w' => e = .returned (.agg #[.int .i64 v, .int .i64 9223372036854775807]) ∧ Ok w0 w' := by
  refine (pfrom_ex v w).mono ?_
  rintro e w' ⟨rfl, rfl⟩
  exact ⟨rfl, hok.alloc _⟩
theorem pwithin_is (al ah bl bh l h : Int) (e : meetI al ah bl bh = (l, h)) (w0 w : World) (hok : Ok w0 w) :
    Calls Tryz.prog 188 #[.agg #[.int .i64 al, .int .i64 ah], .agg #[.int .i64 bl, .int .i64 bh]] w fun e w' => e = .returned (.agg #[.int .i64 l, .int .i64 h]) ∧ Ok w0 w' := by
  have H := pwithin_any al ah bl bh w0 w hok
  rw [e] at H
  exact H
theorem pisnone_o (l h : Int) (w0 w : World) (hok : Ok w0 w) :
    Calls Tryz.prog 94 #[.agg #[.int .i64 l, .int .i64 h]] w fun e w' => e = .returned (.bool (decide (h < l))) ∧ Ok w0 w' := by
  refine (pisnone_ex l h w).mono ?_
  rintro e w' ⟨rfl, rfl⟩
  exact ⟨rfl, hok.alloc _⟩
def sel2 (a b : Int) : Nat → Int
  | 0 => a
  | _ => b
def sel3 (a b c : Int) : Nat → Int
  | 0 => a
  | 1 => b
  | _ => c
theorem idxX (a b c d : Int) (k : Nat) (hk : k < 2) (w : World) : (Instr.index 165 (.agg #[.int .i64 a, .int .i64 b, .int .i64 c, .int .i64 d]) (.int .i64 (k : Int))).run Tryz.prog w = .ok (.agg #[.int .i64 (sel2 a c k), .int .i64 (sel2 b d k)]) w := by
  obtain rfl | rfl : k = 0 ∨ k = 1 := by omega
  · kernel_rfl
  · kernel_rfl
theorem idxY (a b c d e f : Int) (k : Nat) (hk : k < 3) (w : World) : (Instr.index 167 (.agg #[.int .i64 a, .int .i64 b, .int .i64 c, .int .i64 d, .int .i64 e, .int .i64 f]) (.int .i64 (k : Int))).run Tryz.prog w = .ok (.agg #[.int .i64 (sel3 a c e k), .int .i64 (sel3 b d f k)]) w := by
  obtain rfl | rfl | rfl : k = 0 ∨ k = 1 ∨ k = 2 := by omega
  · kernel_rfl
  · kernel_rfl
  · kernel_rfl
/-- One piece of Div: what it adds. -/
def stD (x1 x2 y1 y2 : Int) (s : (Int × Int) × Bool) : (Int × Int) × Bool :=
  if x2 < x1 ∨ y2 < y1 then s else (joinI s.1.1 s.1.2 (hullW (cL Int.tdiv x1 x2 y1 y2 4) (cH Int.tdiv x1 x2 y1 y2 4)).1 (hullW (cL Int.tdiv x1 x2 y1 y2 4) (cH Int.tdiv x1 x2 y1 y2 4)).2, s.2 && exW (cL Int.tdiv x1 x2 y1 y2 4) (cH Int.tdiv x1 x2 y1 y2 4))
def rowD (l h : Int) : Obj := .cells #[.int .i64 l, .int .i64 h] 23
def DvInv (w wr : World) (g8 : Nat) (O : Int × Int) : Prop := Ok w wr ∧ wr.heap[w.heap.size + 2]? = some (rowD 0 0) ∧ wr.heap[g8]? = some (rowD O.1 O.2) ∧ w.heap.size + 2 < g8
theorem DvInv.ok {w wr w1 : World} {g8 : Nat} {O : Int × Int} (h : DvInv w wr g8 O) (hb : Ok wr w1) : DvInv w w1 g8 O := ⟨h.1.step hb, Ok.row' hb h.2.1, Ok.row' hb h.2.2.1, h.2.2.2⟩
theorem DvInv.set {w wr : World} {g8 : Nat} {O : Int × Int} (h : DvInv w wr g8 O) (l k : Int) : DvInv w ((wr.setCell ⟨g8, 0, none⟩ (.int .i64 l)).setCell ⟨g8, 1, none⟩ (.int .i64 k)) g8 (l, k) := by
  obtain ⟨h1, h2, h3, h4⟩ := h
  refine ⟨(h1.set (show w.heap.size ≤ g8 by omega) _).set (show w.heap.size ≤ g8 by omega) _, ?_, row_set2 h3 _ _, h4⟩
  rw [heap_setCell_other _ _ _ _ (show w.heap.size + 2 ≠ g8 by omega), heap_setCell_other _ _ _ _ (show w.heap.size + 2 ≠ g8 by omega)]
  exact h2
theorem op_quo {al ah bl bh : Int} (ha1 : In64 al) (ha2 : In64 ah) (hb1 : bl ≠ 0) (hb2 : bh ≠ 0) : OpAt 194 al ah bl bh Int.tdiv := by
  intro x y hx hy w0 w hok
  exact pquo_any x y (by rcases hx with rfl | rfl <;> assumption) (by rcases hy with rfl | rfl <;> assumption) w0 w hok
end Go.Proofs.YtgkbegmaffknbaaGreat
