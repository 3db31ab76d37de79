import Derived.Test.YtgkbegmaffknbaaGreatFCgcd
import Derived.Test.YtgkbegmaffknbaaGreatFCpart
set_option linter.unusedVariables false
set_option linter.unusedSimpArgs false
set_option linter.unnecessarySimpa false
/- Ctim Cint -/
namespace Go.Proofs.YtgkbegmaffknbaaGreat
section
open Go.RowKit
def TimInv (w0 w wr : World) (S : Nat) : Prop := Ok w0 wr ∧ wr.heap[w.heap.size]? = some (cB 0) ∧ wr.heap[w.heap.size + 1]? = some (cB S)
theorem TimInv.below {w0 w wr w1 : World} {S : Nat} (h : TimInv w0 w wr S) (hb : Ok wr w1) : TimInv w0 w w1 S := ⟨h.1.step hb, hb.row' h.2.1, hb.row' h.2.2⟩
theorem TimInv.lo {w0 w wr : World} {S : Nat} (h : TimInv w0 w wr S) (x : Int) : (wr.setCell ⟨w.heap.size + 1, 1, none⟩ (.int .u64 x)).heap[w.heap.size + 1]? = some (.cells #[.int .u64 (hiB S), .int .u64 x] 115) := by
  rw [heap_setCell_same _ _ 1 _ _ _ h.2.2]; rfl
end
section
open Go.RowKit
theorem infoCg : (Tryz.prog.info? 26).map (·.size) = some 2 := by kernel_rfl
/-- A class, and a whole number, as values. -/
def cv (M R : Nat) : Value := .agg #[.int .u64 (M : Int), .int .u64 (R : Int)]
theorem row3_facts {w : World} {g : Nat} {x y z : Value} {t : TypeId} (h : w.heap[g]? = some (.cells #[x, y, z] t (0, 0))) :
    w.cell? ⟨g, 0, none⟩ = some x ∧ w.cell? ⟨g, 1, none⟩ = some y ∧ w.cell? ⟨g, 2, none⟩ = some z ∧ w.frozen? ⟨g, 0, none⟩ = false ∧ w.frozen? ⟨g, 1, none⟩ = false ∧ w.frozen? ⟨g, 2, none⟩ = false := by
  refine ⟨?_, ?_, ?_, frozen_of_row _ _ _ _ _ h, frozen_of_row _ _ _ _ _ h, frozen_of_row _ _ _ _ _ h⟩
  · exact (cell_of_row _ _ 0 _ _ _ h).trans (by simp)
  · exact (cell_of_row _ _ 1 _ _ _ h).trans (by simp)
  · exact (cell_of_row _ _ 2 _ _ _ h).trans (by simp)
theorem field_lo (a b : Value) (w : World) : (Instr.field 115 (.agg #[a, b]) 1).run Tryz.prog w = .ok b w := by kernel_rfl
attribute [local go_sem] field_lo
end
end Go.Proofs.YtgkbegmaffknbaaGreat
