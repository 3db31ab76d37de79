import Derived.Test.YtaocomjhepgabaaKWsam
set_option linter.unusedVariables false
set_option linter.unusedSimpArgs false
set_option linter.unnecessarySimpa false
/- Whe -/
namespace Go.Proofs.Ytaocomjhepgabaa
open Go.RowKit
def underI (d : Int) (y : Int × Int × Bool) : Bool := decide (d < y.2.1) || (decide (y.2.1 = d) && !y.2.2)
def runI (d : Int) : List (Int × Int × Bool) → Nat
  | [] => 0
  | y :: r => if underI d y = true then 1 + runI d r else 0
end Go.Proofs.Ytaocomjhepgabaa
