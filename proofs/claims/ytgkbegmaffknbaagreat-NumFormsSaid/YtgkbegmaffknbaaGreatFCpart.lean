import Derived.Test.YtgkbegmaffknbaaGreatRows
import Derived.Test.YtgkbegmaffknbaaGreatFCdef
import Derived.Test.YtgkbegmaffknbaaGreatFCok
set_option linter.unusedVariables false
set_option linter.unusedSimpArgs false
set_option linter.unnecessarySimpa false
/- Cbig Cpart -/
namespace Go.Proofs.YtgkbegmaffknbaaGreat
section
open Go.RowKit
/-- A number of 128 bits as a value. -/
def bv (n : Nat) : Value := .agg #[.int .u64 (hiB n), .int .u64 (loB n)]
theorem retu {a b : Int} (h : a = b) : Ending.returned (.int .u64 a) = .returned (.int .u64 b) := by rw [h]
end
section
open Go.RowKit
def cB (n : Nat) : Obj := .cells #[.int .u64 (hiB n), .int .u64 (loB n)] 115
/-- What lies where while parted goes on. -/
def PartInv (w0 w wr : World) (a m q r : Nat) : Prop :=
  Ok w0 wr ∧ w.heap.size + 6 ≤ wr.heap.size ∧ wr.heap[w.heap.size]? = some (cB a) ∧ wr.heap[w.heap.size + 1]? = some (cB m) ∧ wr.heap[w.heap.size + 2]? = some (cB 0) ∧ wr.heap[w.heap.size + 3]? = some (cB 0) ∧ wr.heap[w.heap.size + 4]? = some (cB q) ∧ wr.heap[w.heap.size + 5]? = some (cB r)
theorem PartInv.below {w0 w wr w1 : World} {a m q r : Nat} (h : PartInv w0 w wr a m q r) (hb : Ok wr w1) : PartInv w0 w w1 a m q r := by
  obtain ⟨h1, h2, h3, h4, h5, h6, h7, h8⟩ := h
  have := hb.le
  exact ⟨h1.step hb, by omega, hb.row' h3, hb.row' h4, hb.row' h5, hb.row' h6, hb.row' h7, hb.row' h8⟩
theorem row_set4 {w : World} {g k : Nat} {u v u' v' : Value} {t : TypeId} (hg : w.heap[g]? = some (.cells #[u, v] t (0, 0))) (hk : w.heap[k]? = some (.cells #[u', v'] t (0, 0))) (hne : g ≠ k) (x y x' y' : Value) :
    ((((w.setCell ⟨g, 0, none⟩ x).setCell ⟨g, 1, none⟩ y).setCell ⟨k, 0, none⟩ x').setCell ⟨k, 1, none⟩ y').heap[g]? = some (.cells #[x, y] t (0, 0)) ∧ ((((w.setCell ⟨g, 0, none⟩ x).setCell ⟨g, 1, none⟩ y).setCell ⟨k, 0, none⟩ x').setCell ⟨k, 1, none⟩ y').heap[k]? = some (.cells #[x', y'] t (0, 0)) := by
  constructor
  · rw [heap_setCell_other _ _ _ _ hne, heap_setCell_other _ _ _ _ hne]; exact row_set2 hg x y
  · refine row_set2 (u := u') (v := v') ?_ x' y'
    rw [heap_setCell_other _ _ _ _ (Ne.symm hne), heap_setCell_other _ _ _ _ (Ne.symm hne)]; exact hk
end
end Go.Proofs.YtgkbegmaffknbaaGreat
