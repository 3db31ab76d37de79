import Derived.Test.YtgkbegmaffknbaaGreatFCint
import Derived.Test.YtgkbegmaffknbaaGreatFCjn
set_option linter.unusedVariables false
set_option linter.unusedSimpArgs false
set_option linter.unnecessarySimpa false
/- Cup Cdown -/
namespace Go.Proofs.YtgkbegmaffknbaaGreat
section
open Go.RowKit
attribute [local go_sem] field_lo
/-- The remainder of a class' number, and of v, by M. -/
def atN (M : Nat) (v : Int) : Nat := restN (rF 0 (bitsN v)) (rS 0 (bitsN v)) M
def upN (M R : Nat) (v : Int) : Nat := (restN (rF M R) (rS M R) M + (M - atN M v) % M) % M
def upC (M R : Nat) (v : Int) : Int × Bool :=
  if M = 0 then (if wrap64 (R : Int) < v then (0, false) else (wrap64 (R : Int), true))
  else if 9223372036854775807 - v < (upN M R v : Int) then (0, false) else (v + (upN M R v : Int), true)
end
section
open Go.RowKit
attribute [local go_sem] field_lo
def downN (M R : Nat) (v : Int) : Nat := (atN M v + (M - restN (rF M R) (rS M R) M) % M) % M
def downC (M R : Nat) (v : Int) : Int × Bool :=
  if M = 0 then (if v < wrap64 (R : Int) then (0, false) else (wrap64 (R : Int), true))
  else if v + 9223372036854775808 < (downN M R v : Int) then (0, false) else (v - (downN M R v : Int), true)
end
end Go.Proofs.YtgkbegmaffknbaaGreat
