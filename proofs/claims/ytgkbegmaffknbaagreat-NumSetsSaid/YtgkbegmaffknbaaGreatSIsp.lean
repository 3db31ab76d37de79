import Derived.Test.YtgkbegmaffknbaaGreatSIref
set_option linter.unusedVariables false
set_option linter.unusedSimpArgs false
set_option linter.unnecessarySimpa false
/- Iwh Itm Isp -/
namespace Go.Proofs.YtgkbegmaffknbaaGreat
section
open Go.RowKit
def hiW (z : Int) : Int := z / 18446744073709551616
def loW (z : Int) : Int := z % 18446744073709551616
end
section
open Go.RowKit
def rowW (z : Int) : Obj := .cells #[.int .i64 (hiW z), .int .u64 (loW z)] 130
def TimesInv (w0 w wr : World) (X S : Int) : Prop :=
  Ok w0 wr ∧ w.heap.size + 4 ≤ wr.heap.size ∧ wr.heap[w.heap.size]? = some (rowW 0) ∧ wr.heap[w.heap.size + 2]? = some (rowW X) ∧ wr.heap[w.heap.size + 3]? = some (rowW S)
theorem TimesInv.below {w0 w wr w1 : World} {X S : Int} (h : TimesInv w0 w wr X S) (hb : Ok wr w1) : TimesInv w0 w w1 X S := by
  obtain ⟨h1, h2, h3, h4, h5⟩ := h
  have := hb.le
  exact ⟨h1.step hb, by omega, hb.row (by omega) h3, hb.row (by omega) h4, hb.row (by omega) h5⟩
theorem TimesInv.setS {w0 w wr : World} {X S : Int} (h : TimesInv w0 w wr X S) (hw : w0.heap.size ≤ w.heap.size) (T : Int) : TimesInv w0 w ((wr.setCell ⟨w.heap.size + 3, 0, none⟩ (.int .i64 (hiW T))).setCell ⟨w.heap.size + 3, 1, none⟩ (.int .u64 (loW T))) X T := by
  obtain ⟨h1, h2, h3, h4, h5⟩ := h
  refine ⟨(h1.set (by simp; omega) _).set (by simp; omega) _, by simpa using h2, ?_, ?_, row_set2 h5 _ _⟩
  · rw [heap_setCell_other _ _ _ _ (by simp), heap_setCell_other _ _ _ _ (by simp)]; exact h3
  · rw [heap_setCell_other _ _ _ _ (by simp), heap_setCell_other _ _ _ _ (by simp)]; exact h4
end
section
open Go.RowKit
set_option maxHeartbeats 400000 in
theorem rempty_ex (l h : Int) (w : World) :
    Calls Tryz.prog 63 #[.agg #[.int .i64 l, .int .i64 h]] w fun e w' => e = .returned (.bool (decide (h < l))) ∧ w' = w.alloc (.cells #[.int .i64 l, .int .i64 h] 23) := by
  go_enter Tryz.func63, Tryz.ntmps63
  go_wp2
  go_ret
  exact ⟨rfl, rfl⟩
theorem wlo (z : Int) : wrap64 (loW z) = wrap64 z := by unfold loW wrap64; omega
end
end Go.Proofs.YtgkbegmaffknbaaGreat
