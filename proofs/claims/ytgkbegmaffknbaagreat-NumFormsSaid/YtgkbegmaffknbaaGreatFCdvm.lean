import Derived.Test.YtgkbegmaffknbaaGreatFChd
set_option linter.unusedVariables false
set_option linter.unusedSimpArgs false
/- Cdvm -/
namespace Go.Proofs.YtgkbegmaffknbaaGreat
open Go.RowKit
theorem all_mem (v : Int) : MemC 1 0 v := by rw [memC_pos (by omega)]; simp
end Go.Proofs.YtgkbegmaffknbaaGreat
