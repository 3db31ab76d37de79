import Derived.Deep.RegionHeld3
import Derived.Test.YtgkbegmaffknbaaGreatFIdv
import Derived.Test.YtgkbegmaffknbaaGreatFJt
set_option linter.unusedVariables false
set_option linter.unusedSimpArgs false
set_option linter.unnecessarySimpa false
/- Jc -/
namespace Go.Proofs.YtgkbegmaffknbaaGreat
open Go.RowKit
/-- An operation on numbers, at the corners. -/
def OpAt (f : Nat) (al ah bl bh : Int) (W : Int → Int → Int) : Prop :=
  ∀ x y, (x = al ∨ x = ah) → (y = bl ∨ y = bh) → ∀ w0 w, Ok w0 w → Calls Tryz.prog f #[.int .i64 x, .int .i64 y] w fun e w' => e = .returned (.agg #[.int .i64 (tW (W x y)), .int .i64 (wrap64 (W x y))]) ∧ Ok w0 w'
def rowS (lo hi : Int) : Obj := .cells #[.int .i64 (tW lo), .int .i64 (wrap64 lo), .int .i64 (tW hi), .int .i64 (wrap64 hi)] 159
def ThrInv (w wr : World) (g8 : Nat) (lo hi : Int) : Prop :=
  Ok w wr ∧ wr.heap[w.heap.size + 2]? = some (.cells #[.int .i64 0, .int .i64 0, .int .i64 0, .int .i64 0] 159) ∧ wr.heap[g8]? = some (rowS lo hi) ∧ w.heap.size + 2 < g8
/-- The corners, and the ends of what they gave so far. -/
def cX (al ah : Int) : Nat → Int
  | 0 => al
  | 1 => al
  | _ => ah
def cY (bl bh : Int) : Nat → Int
  | 0 => bl
  | 1 => bh
  | 2 => bl
  | _ => bh
def cL (W : Int → Int → Int) (al ah bl bh : Int) : Nat → Int
  | 0 => W al bl
  | k + 1 => min (cL W al ah bl bh k) (W (cX al ah k) (cY bl bh k))
def cH (W : Int → Int → Int) (al ah bl bh : Int) : Nat → Int
  | 0 => W al bl
  | k + 1 => max (cH W al ah bl bh k) (W (cX al ah k) (cY bl bh k))
theorem row_facts4 {w : World} {g : Nat} {a b c d : Value} {t : TypeId} (h : w.heap[g]? = some (.cells #[a, b, c, d] t (0, 0))) :
    (w.cell? ⟨g, 0, none⟩ = some a ∧ w.cell? ⟨g, 1, none⟩ = some b ∧ w.cell? ⟨g, 2, none⟩ = some c ∧ w.cell? ⟨g, 3, none⟩ = some d) ∧ w.frozen? ⟨g, 0, none⟩ = false ∧ w.frozen? ⟨g, 1, none⟩ = false ∧ w.frozen? ⟨g, 2, none⟩ = false ∧ w.frozen? ⟨g, 3, none⟩ = false := by
  refine ⟨⟨?_, ?_, ?_, ?_⟩, frozen_of_row _ _ _ _ _ h, frozen_of_row _ _ _ _ _ h, frozen_of_row _ _ _ _ _ h, frozen_of_row _ _ _ _ _ h⟩
  · exact (cell_of_row _ _ 0 _ _ _ h).trans (by simp)
  · exact (cell_of_row _ _ 1 _ _ _ h).trans (by simp)
  · exact (cell_of_row _ _ 2 _ _ _ h).trans (by simp)
  · exact (cell_of_row _ _ 3 _ _ _ h).trans (by simp)
theorem Jrow_set4 {w : World} {g : Nat} {a b c d : Value} {t : TypeId} (hg : w.heap[g]? = some (.cells #[a, b, c, d] t (0, 0))) (x y z u : Value) : ((((w.setCell ⟨g, 0, none⟩ x).setCell ⟨g, 1, none⟩ y).setCell ⟨g, 2, none⟩ z).setCell ⟨g, 3, none⟩ u).heap[g]? = some (.cells #[x, y, z, u] t (0, 0)) := by
  have h1 : (w.setCell ⟨g, 0, none⟩ x).heap[g]? = some (.cells #[x, b, c, d] t (0, 0)) := by simpa using heap_setCell_same w g 0 _ t x hg
  have h2 : ((w.setCell ⟨g, 0, none⟩ x).setCell ⟨g, 1, none⟩ y).heap[g]? = some (.cells #[x, y, c, d] t (0, 0)) := by simpa using heap_setCell_same _ g 1 _ t y h1
  have h3 : (((w.setCell ⟨g, 0, none⟩ x).setCell ⟨g, 1, none⟩ y).setCell ⟨g, 2, none⟩ z).heap[g]? = some (.cells #[x, y, z, d] t (0, 0)) := by simpa using heap_setCell_same _ g 2 _ t z h2
  simpa using heap_setCell_same _ g 3 _ t u h3
theorem ThrInv.next {w wr w3 : World} {g8 : Nat} {lo hi l h : Int} (H : ThrInv w wr g8 lo hi) (hb : Ok wr w3) :
    ThrInv w ((((w3.setCell ⟨g8, 0, none⟩ (.int .i64 (tW l))).setCell ⟨g8, 1, none⟩ (.int .i64 (wrap64 l))).setCell ⟨g8, 2, none⟩ (.int .i64 (tW h))).setCell ⟨g8, 3, none⟩ (.int .i64 (wrap64 h))) g8 l h := by
  obtain ⟨r1, r2, r3, r4⟩ := H
  have r3' := Ok.row' hb r3
  have hg : w.heap.size ≤ g8 := by omega
  refine ⟨((((r1.step hb).set hg _).set hg _).set hg _).set hg _, ?_, Jrow_set4 r3' _ _ _ _, r4⟩
  rw [heap_setCell_other _ _ _ _ (show w.heap.size + 2 ≠ g8 by omega), heap_setCell_other _ _ _ _ (show w.heap.size + 2 ≠ g8 by omega), heap_setCell_other _ _ _ _ (show w.heap.size + 2 ≠ g8 by omega), heap_setCell_other _ _ _ _ (show w.heap.size + 2 ≠ g8 by omega)]
  exact Ok.row' hb r2
theorem pwith_is (lo hi z : Int) (w0 w : World) (hok : Ok w0 w) :
    Calls Tryz.prog 228 #[.agg #[.int .i64 (tW lo), .int .i64 (wrap64 lo), .int .i64 (tW hi), .int .i64 (wrap64 hi)], .agg #[.int .i64 (tW z), .int .i64 (wrap64 z)]] w fun e w' => e = .returned (.agg #[.int .i64 (tW (min lo z)), .int .i64 (wrap64 (min lo z)), .int .i64 (tW (max hi z)), .int .i64 (wrap64 (max hi z))]) ∧ Ok w0 w' := pwith_any lo hi z w0 w hok
theorem idx0 (a b c d e f g h : Int) (w : World) : (Instr.index 187 (.agg #[.int .i64 a, .int .i64 b, .int .i64 c, .int .i64 d, .int .i64 e, .int .i64 f, .int .i64 g, .int .i64 h]) (.int .i64 0)).run Tryz.prog w = .ok (.agg #[.int .i64 a, .int .i64 b]) w := by kernel_rfl
theorem idx1 (a b c d e f g h : Int) (w : World) : (Instr.index 187 (.agg #[.int .i64 a, .int .i64 b, .int .i64 c, .int .i64 d, .int .i64 e, .int .i64 f, .int .i64 g, .int .i64 h]) (.int .i64 1)).run Tryz.prog w = .ok (.agg #[.int .i64 c, .int .i64 d]) w := by kernel_rfl
theorem idx2 (a b c d e f g h : Int) (w : World) : (Instr.index 187 (.agg #[.int .i64 a, .int .i64 b, .int .i64 c, .int .i64 d, .int .i64 e, .int .i64 f, .int .i64 g, .int .i64 h]) (.int .i64 2)).run Tryz.prog w = .ok (.agg #[.int .i64 e, .int .i64 f]) w := by kernel_rfl
theorem idx3 (a b c d e f g h : Int) (w : World) : (Instr.index 187 (.agg #[.int .i64 a, .int .i64 b, .int .i64 c, .int .i64 d, .int .i64 e, .int .i64 f, .int .i64 g, .int .i64 h]) (.int .i64 3)).run Tryz.prog w = .ok (.agg #[.int .i64 g, .int .i64 h]) w := by kernel_rfl
end Go.Proofs.YtgkbegmaffknbaaGreat
