import Derived.Test.YtbkblijoimmdeaaKKd
import Derived.Test.YtbkblijoimmdeaaKKf
set_option linter.unusedVariables false
set_option linter.unusedSimpArgs false
set_option linter.unnecessarySimpa false
/- Ks -/
namespace Go.Proofs.Ytbkblijoimmdeaa
open Go.RowKit
end Go.Proofs.Ytbkblijoimmdeaa
/- Package cong: Div: contract. -/
namespace Go.Proofs.Ytbkblijoimmdeaa
open Go.RowKit
theorem knew_ne {W w' : World} {a : Nat} (hb : Ok W w') (h : a < W.heap.size) : ¬ w'.heap.size = a := by have := hb.le; omega
end Go.Proofs.Ytbkblijoimmdeaa
/- Package cong: Div: contract. -/
namespace Go.Proofs.Ytbkblijoimmdeaa
open Go.RowKit
end Go.Proofs.Ytbkblijoimmdeaa
