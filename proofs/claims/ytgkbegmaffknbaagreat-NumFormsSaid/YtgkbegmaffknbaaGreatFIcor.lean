import Derived.Test.YtgkbegmaffknbaaGreatFImul
set_option linter.unusedVariables false
set_option linter.unusedSimpArgs false
set_option linter.unnecessarySimpa false
/- Icor -/
namespace Go.Proofs.YtgkbegmaffknbaaGreat
open Go.RowKit
def two (a b : Int) : Nat → Int
  | 0 => a
  | _ => b
def quoI (x y : Int) : Int := wrap64 (x.tdiv y)
def rowI (l h : Int) : Obj := .cells #[.int .i64 l, .int .i64 h] 23
def CorInv (al ah bl bh : Int) (w wr : World) (O : Int × Int) : Prop :=
  Ok w wr ∧ wr.heap[w.heap.size + 1]? = some (rowI bl bh) ∧ wr.heap[w.heap.size + 2]? = some (rowI 0 0) ∧ wr.heap[w.heap.size + 6]? = some (rowI O.1 O.2) ∧ wr.heap[w.heap.size + 7]? = some (.cells #[.int .i64 al, .int .i64 ah] 2)
theorem CorInv.ok {al ah bl bh : Int} {w wr w1 : World} {O : Int × Int} (h : CorInv al ah bl bh w wr O) (hb : Ok wr w1) : CorInv al ah bl bh w w1 O :=
  ⟨h.1.step hb, Ok.row' hb h.2.1, Ok.row' hb h.2.2.1, Ok.row' hb h.2.2.2.1, Ok.row' hb h.2.2.2.2⟩
theorem CorInv.set {al ah bl bh : Int} {w wr : World} {O : Int × Int} (h : CorInv al ah bl bh w wr O) (l k : Int) : CorInv al ah bl bh w ((wr.setCell ⟨w.heap.size + 6, 0, none⟩ (.int .i64 l)).setCell ⟨w.heap.size + 6, 1, none⟩ (.int .i64 k)) (l, k) := by
  obtain ⟨h1, h2, h3, h4, h5⟩ := h
  refine ⟨(h1.set (show w.heap.size ≤ w.heap.size + 6 by omega) _).set (show w.heap.size ≤ w.heap.size + 6 by omega) _, ?_, ?_, row_set2 h4 _ _, ?_⟩
  · rw [heap_setCell_other _ _ _ _ (by simp), heap_setCell_other _ _ _ _ (by simp)]; exact h2
  · rw [heap_setCell_other _ _ _ _ (by simp), heap_setCell_other _ _ _ _ (by simp)]; exact h3
  · rw [heap_setCell_other _ _ _ _ (by simp), heap_setCell_other _ _ _ _ (by simp)]; exact h5
def cornersI (al ah bl bh : Int) : Int × Int :=
  if ah < al ∨ bh < bl then (1, 0) else (min4 (quoI al bl) (quoI al bh) (quoI ah bl) (quoI ah bh), max4 (quoI al bl) (quoI al bh) (quoI ah bl) (quoI ah bh))
end Go.Proofs.YtgkbegmaffknbaaGreat
