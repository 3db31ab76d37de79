import Derived.Test.YtgkbegmaffknbaaGreatRows
import Derived.Test.YtgkbegmaffknbaaGreatHCok
import Derived.Test.YtgkbegmaffknbaaGreatHCsem
set_option linter.unusedVariables false
set_option linter.unusedSimpArgs false
set_option linter.unnecessarySimpa false
/- Cbig Cpart Cgcd Ctim Cint -/
namespace Go.Proofs.YtgkbegmaffknbaaGreat
section
open Go.RowKit
/-- A number of 128 bits as a value. -/
def bv (n : Nat) : Value := .agg #[.int .u64 (hiB n), .int .u64 (loB n)]
theorem retu {a b : Int} (h : a = b) : Ending.returned (.int .u64 a) = .returned (.int .u64 b) := by rw [h]
end
section
open Go.RowKit
def cB (n : Nat) : Obj := .cells #[.int .u64 (hiB n), .int .u64 (loB n)] 115
/-- What lies where while parted goes on. -/
def PartInv (w0 w wr : World) (a m q r : Nat) : Prop :=
  Ok w0 wr ∧ w.heap.size + 6 ≤ wr.heap.size ∧ wr.heap[w.heap.size]? = some (cB a) ∧ wr.heap[w.heap.size + 1]? = some (cB m) ∧ wr.heap[w.heap.size + 2]? = some (cB 0) ∧ wr.heap[w.heap.size + 3]? = some (cB 0) ∧ wr.heap[w.heap.size + 4]? = some (cB q) ∧ wr.heap[w.heap.size + 5]? = some (cB r)
theorem PartInv.below {w0 w wr w1 : World} {a m q r : Nat} (h : PartInv w0 w wr a m q r) (hb : Ok wr w1) : PartInv w0 w w1 a m q r := by
  obtain ⟨h1, h2, h3, h4, h5, h6, h7, h8⟩ := h
  have := hb.le
  exact ⟨h1.step hb, by omega, hb.row' h3, hb.row' h4, hb.row' h5, hb.row' h6, hb.row' h7, hb.row' h8⟩
theorem row_set4 {w : World} {g k : Nat} {u v u' v' : Value} {t : TypeId} (hg : w.heap[g]? = some (.cells #[u, v] t (0, 0))) (hk : w.heap[k]? = some (.cells #[u', v'] t (0, 0))) (hne : g ≠ k) (x y x' y' : Value) :
    ((((w.setCell ⟨g, 0, none⟩ x).setCell ⟨g, 1, none⟩ y).setCell ⟨k, 0, none⟩ x').setCell ⟨k, 1, none⟩ y').heap[g]? = some (.cells #[x, y] t (0, 0)) ∧ ((((w.setCell ⟨g, 0, none⟩ x).setCell ⟨g, 1, none⟩ y).setCell ⟨k, 0, none⟩ x').setCell ⟨k, 1, none⟩ y').heap[k]? = some (.cells #[x', y'] t (0, 0)) := by
  constructor
  · rw [heap_setCell_other _ _ _ _ hne, heap_setCell_other _ _ _ _ hne]; exact row_set2 hg x y
  · refine row_set2 (u := u') (v := v') ?_ x' y'
    rw [heap_setCell_other _ _ _ _ (Ne.symm hne), heap_setCell_other _ _ _ _ (Ne.symm hne)]; exact hk
end
section
open Go.RowKit
def GcdInv (w0 w wr : World) (x y : Nat) : Prop :=
  Ok w0 wr ∧ wr.heap[w.heap.size]? = some (cB x) ∧ wr.heap[w.heap.size + 1]? = some (cB y) ∧ wr.heap[w.heap.size + 2]? = some (cB 0)
theorem GcdInv.next {w0 w X : World} {x y : Nat} (h : GcdInv w0 w X x y) (hw : w0.heap.size ≤ w.heap.size) (n : Nat) :
    GcdInv w0 w ((((X.setCell ⟨w.heap.size, 0, none⟩ (.int .u64 (hiB y))).setCell ⟨w.heap.size, 1, none⟩ (.int .u64 (loB y))).setCell ⟨w.heap.size + 1, 0, none⟩ (.int .u64 (hiB n))).setCell ⟨w.heap.size + 1, 1, none⟩ (.int .u64 (loB n))) y n := by
  have hs := row_set4 h.2.1 h.2.2.1 (show w.heap.size ≠ w.heap.size + 1 by omega) (.int .u64 (hiB y)) (.int .u64 (loB y)) (.int .u64 (hiB n)) (.int .u64 (loB n))
  refine ⟨(((h.1.set hw _).set hw _).set (show w0.heap.size ≤ w.heap.size + 1 by omega) _).set (show w0.heap.size ≤ w.heap.size + 1 by omega) _, hs.1, hs.2, ?_⟩
  rw [heap_setCell_other _ _ _ _ (by simp), heap_setCell_other _ _ _ _ (by simp), heap_setCell_other _ _ _ _ (by simp), heap_setCell_other _ _ _ _ (by simp)]
  exact h.2.2.2
theorem GcdInv.below {w0 w wr w1 : World} {x y : Nat} (h : GcdInv w0 w wr x y) (hb : Ok wr w1) : GcdInv w0 w w1 x y := ⟨h.1.step hb, hb.row' h.2.1, hb.row' h.2.2.1, hb.row' h.2.2.2⟩
/-- The greatest power of two that divides g, at most 2^63. -/
def twoN (g : Nat) : Nat :=
  match (List.range 63).find? (fun i => g / 2 ^ i % 2 == 1) with
  | some i => 2 ^ i
  | none => 9223372036854775808
theorem twoN_at {g i : Nat} (hi : i < 63) (h1 : g / 2 ^ i % 2 = 1) (h0 : ∀ j, j < i → g / 2 ^ j % 2 = 0) : twoN g = 2 ^ i := by
  have : (List.range 63).find? (fun i => g / 2 ^ i % 2 == 1) = some i := by
    rw [List.find?_range_eq_some]
    refine ⟨by simp [h1], by simpa using hi, fun j hj => by simp [h0 j hj]⟩
  unfold twoN; rw [this]
theorem twoN_none {g : Nat} (h0 : ∀ j, j < 63 → g / 2 ^ j % 2 = 0) : twoN g = 9223372036854775808 := by
  have : (List.range 63).find? (fun i => g / 2 ^ i % 2 == 1) = none := by
    rw [List.find?_eq_none]
    intro j hj
    have := h0 j (by simpa using hj)
    simp [this]
  unfold twoN; rw [this]
end
section
open Go.RowKit
def TimInv (w0 w wr : World) (S : Nat) : Prop := Ok w0 wr ∧ wr.heap[w.heap.size]? = some (cB 0) ∧ wr.heap[w.heap.size + 1]? = some (cB S)
theorem TimInv.below {w0 w wr w1 : World} {S : Nat} (h : TimInv w0 w wr S) (hb : Ok wr w1) : TimInv w0 w w1 S := ⟨h.1.step hb, hb.row' h.2.1, hb.row' h.2.2⟩
theorem TimInv.lo {w0 w wr : World} {S : Nat} (h : TimInv w0 w wr S) (x : Int) : (wr.setCell ⟨w.heap.size + 1, 1, none⟩ (.int .u64 x)).heap[w.heap.size + 1]? = some (.cells #[.int .u64 (hiB S), .int .u64 x] 115) := by
  rw [heap_setCell_same _ _ 1 _ _ _ h.2.2]; rfl
end
section
open Go.RowKit
theorem infoCg : (Tryz.prog.info? 26).map (·.size) = some 2 := by kernel_rfl
/-- A class, and a whole number, as values. -/
def cv (M R : Nat) : Value := .agg #[.int .u64 (M : Int), .int .u64 (R : Int)]
theorem row3_facts {w : World} {g : Nat} {x y z : Value} {t : TypeId} (h : w.heap[g]? = some (.cells #[x, y, z] t (0, 0))) :
    w.cell? ⟨g, 0, none⟩ = some x ∧ w.cell? ⟨g, 1, none⟩ = some y ∧ w.cell? ⟨g, 2, none⟩ = some z ∧ w.frozen? ⟨g, 0, none⟩ = false ∧ w.frozen? ⟨g, 1, none⟩ = false ∧ w.frozen? ⟨g, 2, none⟩ = false := by
  refine ⟨?_, ?_, ?_, frozen_of_row _ _ _ _ _ h, frozen_of_row _ _ _ _ _ h, frozen_of_row _ _ _ _ _ h⟩
  · exact (cell_of_row _ _ 0 _ _ _ h).trans (by simp)
  · exact (cell_of_row _ _ 1 _ _ _ h).trans (by simp)
  · exact (cell_of_row _ _ 2 _ _ _ h).trans (by simp)
theorem field_lo (a b : Value) (w : World) : (Instr.field 115 (.agg #[a, b]) 1).run Tryz.prog w = .ok b w := by kernel_rfl
attribute [local go_sem] field_lo
end
end Go.Proofs.YtgkbegmaffknbaaGreat
