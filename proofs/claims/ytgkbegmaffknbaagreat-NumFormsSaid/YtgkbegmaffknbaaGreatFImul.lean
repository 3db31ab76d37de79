import Derived.Deep.RegionHeld3
import Derived.Test.YtgkbegmaffknbaaGreatFIsp
set_option linter.unusedVariables false
set_option linter.unusedSimpArgs false
set_option linter.unnecessarySimpa false
/- Imul -/
namespace Go.Proofs.YtgkbegmaffknbaaGreat
open Go.RowKit
/-- Where two variables lie behind a region that made them in any order. -/
def Two (W w1 : World) (gl gh : Nat) (o p : Obj) : Prop := Ok W w1 ∧ w1.heap[gl]? = some o ∧ w1.heap[gh]? = some p ∧ gl ≠ gh ∧ W.heap.size ≤ gl ∧ W.heap.size ≤ gh
def MulInv (al ah bl bh : Int) (w1 : World) (gl gh ga : Nat) (wr : World) (L H : Int) : Prop :=
  Ok w1 wr ∧ wr.heap[gl]? = some (rowW L) ∧ wr.heap[gh]? = some (rowW H) ∧ wr.heap[ga]? = some (.cells #[.int .i64 (hiW (al * bh)), .int .u64 (loW (al * bh)), .int .i64 (hiW (ah * bl)), .int .u64 (loW (ah * bl)), .int .i64 (hiW (ah * bh)), .int .u64 (loW (ah * bh))] 130)
theorem MulInv.alloc {al ah bl bh : Int} {w1 wr : World} {gl gh ga : Nat} {L H : Int} (h : MulInv al ah bl bh w1 gl gh ga wr L H) (o : Obj) : MulInv al ah bl bh w1 gl gh ga (wr.alloc o) L H :=
  ⟨h.1.alloc _, heap_past _ _ _ (lt_row h.2.1) h.2.1, heap_past _ _ _ (lt_row h.2.2.1) h.2.2.1, heap_past _ _ _ (lt_row h.2.2.2) h.2.2.2⟩
end Go.Proofs.YtgkbegmaffknbaaGreat
