import Derived.Deep.RegionHeld3
import Derived.Test.YtgkbegmaffknbabGreatKIwid
set_option linter.unusedVariables false
set_option linter.unusedSimpArgs false
set_option linter.unnecessarySimpa false
/- Imul Icor Idv -/
namespace Go.Proofs.YtgkbegmaffknbabGreat
section
open Go.RowKit
/-- Where two variables lie behind a region that made them in any order. -/
def Two (W w1 : World) (gl gh : Nat) (o p : Obj) : Prop := Ok W w1 ∧ w1.heap[gl]? = some o ∧ w1.heap[gh]? = some p ∧ gl ≠ gh ∧ W.heap.size ≤ gl ∧ W.heap.size ≤ gh
def MulInv (al ah bl bh : Int) (w1 : World) (gl gh ga : Nat) (wr : World) (L H : Int) : Prop :=
  Ok w1 wr ∧ wr.heap[gl]? = some (rowW L) ∧ wr.heap[gh]? = some (rowW H) ∧ wr.heap[ga]? = some (.cells #[.int .i64 (hiW (al * bh)), .int .u64 (loW (al * bh)), .int .i64 (hiW (ah * bl)), .int .u64 (loW (ah * bl)), .int .i64 (hiW (ah * bh)), .int .u64 (loW (ah * bh))] 163)
theorem MulInv.alloc {al ah bl bh : Int} {w1 wr : World} {gl gh ga : Nat} {L H : Int} (h : MulInv al ah bl bh w1 gl gh ga wr L H) (o : Obj) : MulInv al ah bl bh w1 gl gh ga (wr.alloc o) L H :=
  ⟨h.1.alloc _, heap_past _ _ _ (lt_row h.2.1) h.2.1, heap_past _ _ _ (lt_row h.2.2.1) h.2.2.1, heap_past _ _ _ (lt_row h.2.2.2) h.2.2.2⟩
end
section
open Go.RowKit
def two (a b : Int) : Nat → Int
  | 0 => a
  | _ => b
def quoI (x y : Int) : Int := wrap64 (x.tdiv y)
def rowI (l h : Int) : Obj := .cells #[.int .i64 l, .int .i64 h] 24
def CorInv (al ah bl bh : Int) (w wr : World) (O : Int × Int) : Prop :=
  Ok w wr ∧ wr.heap[w.heap.size + 1]? = some (rowI bl bh) ∧ wr.heap[w.heap.size + 2]? = some (rowI 0 0) ∧ wr.heap[w.heap.size + 6]? = some (rowI O.1 O.2) ∧ wr.heap[w.heap.size + 7]? = some (.cells #[.int .i64 al, .int .i64 ah] 2)
theorem CorInv.ok {al ah bl bh : Int} {w wr w1 : World} {O : Int × Int} (h : CorInv al ah bl bh w wr O) (hb : Ok wr w1) : CorInv al ah bl bh w w1 O :=
  ⟨h.1.step hb, Ok.row' hb h.2.1, Ok.row' hb h.2.2.1, Ok.row' hb h.2.2.2.1, Ok.row' hb h.2.2.2.2⟩
theorem CorInv.set {al ah bl bh : Int} {w wr : World} {O : Int × Int} (h : CorInv al ah bl bh w wr O) (l k : Int) : CorInv al ah bl bh w ((wr.setCell ⟨w.heap.size + 6, 0, none⟩ (.int .i64 l)).setCell ⟨w.heap.size + 6, 1, none⟩ (.int .i64 k)) (l, k) := by
  obtain ⟨h1, h2, h3, h4, h5⟩ := h
  refine ⟨(h1.set (show w.heap.size ≤ w.heap.size + 6 by omega) _).set (show w.heap.size ≤ w.heap.size + 6 by omega) _, ?_, ?_, row_set2 h4 _ _, ?_⟩
  · rw [heap_setCell_other _ _ _ _ (by simp), heap_setCell_other _ _ _ _ (by simp)]; exact h2
  · rw [heap_setCell_other _ _ _ _ (by simp), heap_setCell_other _ _ _ _ (by simp)]; exact h3
  · rw [heap_setCell_other _ _ _ _ (by simp), heap_setCell_other _ _ _ _ (by simp)]; exact h5
def cornersI (al ah bl bh : Int) : Int × Int :=
  if ah < al ∨ bh < bl then (1, 0) else (min4 (quoI al bl) (quoI al bh) (quoI ah bl) (quoI ah bh), max4 (quoI al bl) (quoI al bh) (quoI ah bl) (quoI ah bh))
end
section
open Go.RowKit
def M (p q : Int × Int) : Int × Int := meetI p.1 p.2 q.1 q.2
def C (p q : Int × Int) : Int × Int := cornersI p.1 p.2 q.1 q.2
def NP (R : Act → World → Prop) : Exit → Act → World → Prop
  | .normal, a, w => R a w
  | _, _, _ => False
theorem wp_cut2 {P : Program} {c : Code} {Q : Exit → Act → World → Prop} {a : Act} {w : World} (R : Act → World → Prop) (h1 : c.wp P (NP R) a w) (h2 : ∀ a' w', R a' w' → Q .normal a' w') : c.wp P Q a w :=
  Code.wp_mono (fun e a w h => by cases e <;> first | exact h2 _ _ h | exact (h : False).elim) h1
end
end Go.Proofs.YtgkbegmaffknbabGreat
