import Derived.Test.YtgkbegmaffknbaaGreatFKd
import Derived.Test.YtgkbegmaffknbaaGreatFKf
set_option linter.unusedVariables false
set_option linter.unusedSimpArgs false
set_option linter.unnecessarySimpa false
/- Ks -/
namespace Go.Proofs.YtgkbegmaffknbaaGreat
open Go.RowKit
end Go.Proofs.YtgkbegmaffknbaaGreat
/- Package cong: Div: contract. -/
namespace Go.Proofs.YtgkbegmaffknbaaGreat
open Go.RowKit
theorem knew_ne {W w' : World} {a : Nat} (hb : Ok W w') (h : a < W.heap.size) : ¬ w'.heap.size = a := by have := hb.le; omega
end Go.Proofs.YtgkbegmaffknbaaGreat
/- Package cong: Div: contract. -/
namespace Go.Proofs.YtgkbegmaffknbaaGreat
open Go.RowKit
end Go.Proofs.YtgkbegmaffknbaaGreat
