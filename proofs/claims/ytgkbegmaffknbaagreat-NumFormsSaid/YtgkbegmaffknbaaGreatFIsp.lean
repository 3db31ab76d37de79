import Derived.Test.YtgkbegmaffknbaaGreatFIref
set_option linter.unusedVariables false
set_option linter.unusedSimpArgs false
set_option linter.unnecessarySimpa false
/- Iwh Itm Isp -/
namespace Go.Proofs.YtgkbegmaffknbaaGreat
section
open Go.RowKit
def hiW (z : Int) : Int := z / 18446744073709551616
def loW (z : Int) : Int := z % 18446744073709551616
end
section
open Go.RowKit
def rowW (z : Int) : Obj := .cells #[.int .i64 (hiW z), .int .u64 (loW z)] 130
def TimesInv (w0 w wr : World) (X S : Int) : Prop :=
  Ok w0 wr ∧ w.heap.size + 4 ≤ wr.heap.size ∧ wr.heap[w.heap.size]? = some (rowW 0) ∧ wr.heap[w.heap.size + 2]? = some (rowW X) ∧ wr.heap[w.heap.size + 3]? = some (rowW S)
theorem TimesInv.below {w0 w wr w1 : World} {X S : Int} (h : TimesInv w0 w wr X S) (hb : Ok wr w1) : TimesInv w0 w w1 X S := by
  obtain ⟨h1, h2, h3, h4, h5⟩ := h
  have := hb.le
  exact ⟨h1.step hb, by omega, hb.row (by omega) h3, hb.row (by omega) h4, hb.row (by omega) h5⟩
end
section
open Go.RowKit
theorem wlo (z : Int) : wrap64 (loW z) = wrap64 z := by unfold loW wrap64; omega
end
end Go.Proofs.YtgkbegmaffknbaaGreat
