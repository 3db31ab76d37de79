import Derived.Test.YtgkbegmaffknbabGreatKKd
import Derived.Test.YtgkbegmaffknbabGreatKKf
set_option linter.unusedVariables false
set_option linter.unusedSimpArgs false
set_option linter.unnecessarySimpa false
/- Ks -/
namespace Go.Proofs.YtgkbegmaffknbabGreat
open Go.RowKit
end Go.Proofs.YtgkbegmaffknbabGreat
/- Package cong: Div: contract. -/
namespace Go.Proofs.YtgkbegmaffknbabGreat
open Go.RowKit
theorem knew_ne {W w' : World} {a : Nat} (hb : Ok W w') (h : a < W.heap.size) : ¬ w'.heap.size = a := by have := hb.le; omega
end Go.Proofs.YtgkbegmaffknbabGreat
/- Package cong: Div: contract. -/
namespace Go.Proofs.YtgkbegmaffknbabGreat
open Go.RowKit
end Go.Proofs.YtgkbegmaffknbabGreat
