import Derived.Test.YtgkbegmaffknbaaGreatRows
import Derived.WalkKit
import Derived.WalkSpells
import Derived.WalkSmall
import Derived.Deep.QuietTactic
import Derived.BigQuiet
import Derived.Test.YtgkbegmaffknbaaGreatTCok
import Derived.Test.YtgkbegmaffknbaaGreatTImath
set_option linter.unusedVariables false
set_option linter.unusedSimpArgs false
set_option linter.unnecessarySimpa false
/- Idiv Iref Iwh Itm Isp -/
namespace Go.Proofs.YtgkbegmaffknbaaGreat
section
open Go.RowKit

/- Quotients: x.tdiv y with y above 0, or below. -/
def min4 (p q r s : Int) : Int := min (min p q) (min r s)
def max4 (p q r s : Int) : Int := max (max p q) (max r s)
end
section
open Go.RowKit
theorem infoI : (Tryz.prog.info? 23).map (·.size) = some 2 := by kernel_rfl
end
section
open Go.RowKit
def hiW (z : Int) : Int := z / 18446744073709551616
def loW (z : Int) : Int := z % 18446744073709551616
end
section
open Go.RowKit
def rowW (z : Int) : Obj := .cells #[.int .i64 (hiW z), .int .u64 (loW z)] 130
def TimesInv (w0 w wr : World) (X S : Int) : Prop :=
  Ok w0 wr ∧ w.heap.size + 4 ≤ wr.heap.size ∧ wr.heap[w.heap.size]? = some (rowW 0) ∧ wr.heap[w.heap.size + 2]? = some (rowW X) ∧ wr.heap[w.heap.size + 3]? = some (rowW S)
theorem TimesInv.below {w0 w wr w1 : World} {X S : Int} (h : TimesInv w0 w wr X S) (hb : Ok wr w1) : TimesInv w0 w w1 X S := by
  obtain ⟨h1, h2, h3, h4, h5⟩ := h
  have := hb.le
  exact ⟨h1.step hb, by omega, hb.row (by omega) h3, hb.row (by omega) h4, hb.row (by omega) h5⟩
end
section
open Go.RowKit
set_option maxHeartbeats 400000 in
theorem rempty_ex (l h : Int) (w : World) :
    Calls Tryz.prog 63 #[.agg #[.int .i64 l, .int .i64 h]] w fun e w' => e = .returned (.bool (decide (h < l))) ∧ w' = w.alloc (.cells #[.int .i64 l, .int .i64 h] 23) := by
  go_enter Tryz.func63, Tryz.ntmps63
  go_wp2
  go_ret
  exact ⟨rfl, rfl⟩
theorem wlo (z : Int) : wrap64 (loW z) = wrap64 z := by unfold loW wrap64; omega
end
end Go.Proofs.YtgkbegmaffknbaaGreat
