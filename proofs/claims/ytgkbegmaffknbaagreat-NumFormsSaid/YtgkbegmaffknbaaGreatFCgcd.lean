import Derived.Test.YtgkbegmaffknbaaGreatFCpart
set_option linter.unusedVariables false
set_option linter.unusedSimpArgs false
set_option linter.unnecessarySimpa false
/- Cgcd -/
namespace Go.Proofs.YtgkbegmaffknbaaGreat
open Go.RowKit
def GcdInv (w0 w wr : World) (x y : Nat) : Prop :=
  Ok w0 wr ∧ wr.heap[w.heap.size]? = some (cB x) ∧ wr.heap[w.heap.size + 1]? = some (cB y) ∧ wr.heap[w.heap.size + 2]? = some (cB 0)
theorem GcdInv.next {w0 w X : World} {x y : Nat} (h : GcdInv w0 w X x y) (hw : w0.heap.size ≤ w.heap.size) (n : Nat) :
    GcdInv w0 w ((((X.setCell ⟨w.heap.size, 0, none⟩ (.int .u64 (hiB y))).setCell ⟨w.heap.size, 1, none⟩ (.int .u64 (loB y))).setCell ⟨w.heap.size + 1, 0, none⟩ (.int .u64 (hiB n))).setCell ⟨w.heap.size + 1, 1, none⟩ (.int .u64 (loB n))) y n := by
  have hs := row_set4 h.2.1 h.2.2.1 (show w.heap.size ≠ w.heap.size + 1 by omega) (.int .u64 (hiB y)) (.int .u64 (loB y)) (.int .u64 (hiB n)) (.int .u64 (loB n))
  refine ⟨(((h.1.set hw _).set hw _).set (show w0.heap.size ≤ w.heap.size + 1 by omega) _).set (show w0.heap.size ≤ w.heap.size + 1 by omega) _, hs.1, hs.2, ?_⟩
  rw [heap_setCell_other _ _ _ _ (by simp), heap_setCell_other _ _ _ _ (by simp), heap_setCell_other _ _ _ _ (by simp), heap_setCell_other _ _ _ _ (by simp)]
  exact h.2.2.2
theorem GcdInv.below {w0 w wr w1 : World} {x y : Nat} (h : GcdInv w0 w wr x y) (hb : Ok wr w1) : GcdInv w0 w w1 x y := ⟨h.1.step hb, hb.row' h.2.1, hb.row' h.2.2.1, hb.row' h.2.2.2⟩
/-- The greatest power of two that divides g, at most 2^63. -/
def twoN (g : Nat) : Nat :=
  match (List.range 63).find? (fun i => g / 2 ^ i % 2 == 1) with
  | some i => 2 ^ i
  | none => 9223372036854775808
theorem twoN_at {g i : Nat} (hi : i < 63) (h1 : g / 2 ^ i % 2 = 1) (h0 : ∀ j, j < i → g / 2 ^ j % 2 = 0) : twoN g = 2 ^ i := by
  have : (List.range 63).find? (fun i => g / 2 ^ i % 2 == 1) = some i := by
    rw [List.find?_range_eq_some]
    refine ⟨by simp [h1], by simpa using hi, fun j hj => by simp [h0 j hj]⟩
  unfold twoN; rw [this]
theorem twoN_none {g : Nat} (h0 : ∀ j, j < 63 → g / 2 ^ j % 2 = 0) : twoN g = 9223372036854775808 := by
  have : (List.range 63).find? (fun i => g / 2 ^ i % 2 == 1) = none := by
    rw [List.find?_eq_none]
    intro j hj
    have := h0 j (by simpa using hj)
    simp [this]
  unfold twoN; rw [this]
end Go.Proofs.YtgkbegmaffknbaaGreat
