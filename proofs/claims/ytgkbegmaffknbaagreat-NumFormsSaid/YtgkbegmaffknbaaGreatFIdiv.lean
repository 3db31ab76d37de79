import Derived.Test.YtgkbegmaffknbaaGreatFImath
set_option linter.unusedVariables false
set_option linter.unusedSimpArgs false
/- Idiv -/
namespace Go.Proofs.YtgkbegmaffknbaaGreat
open Go.RowKit

/- Quotients: x.tdiv y with y above 0, or below. -/
def min4 (p q r s : Int) : Int := min (min p q) (min r s)
def max4 (p q r s : Int) : Int := max (max p q) (max r s)
end Go.Proofs.YtgkbegmaffknbaaGreat
