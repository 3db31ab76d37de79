import Derived.Test.YtgkbegmaffknbaaGreatFCby
import Derived.Test.YtgkbegmaffknbaaGreatFCint
import Derived.Test.YtgkbegmaffknbaaGreatFCjn
set_option linter.unusedVariables false
set_option linter.unusedSimpArgs false
set_option linter.unnecessarySimpa false
/- Csum Cadd Csub Chd -/
namespace Go.Proofs.YtgkbegmaffknbaaGreat
section
open Go.RowKit
def sumF (f1 : Nat) (s1 : Bool) (f2 : Nat) (s2 : Bool) : Nat := if s1 = s2 then f1 + f2 else if f1 < f2 then f2 - f1 else f1 - f2
def sumS (f1 : Nat) (s1 : Bool) (f2 : Nat) (s2 : Bool) : Bool := if s1 = s2 then s1 else if f1 < f2 then !s1 else s1
theorem sum_val (f1 : Nat) (s1 : Bool) (f2 : Nat) (s2 : Bool) : sval (sumF f1 s1 f2 s2) (sumS f1 s1 f2 s2) = sval f1 s1 + sval f2 s2 := by
  unfold sumF sumS sval
  by_cases h : f1 < f2
  · cases s1 <;> cases s2 <;> simp [h] <;> omega
  · cases s1 <;> cases s2 <;> simp [h] <;> omega
end
section
open Go.RowKit
def addC (cM cR dM dR : Nat) (e : Bool) : Nat × Nat :=
  if cM = 0 ∧ dM = 0 then (0, bitsN (wrap64 (wrap64 (cR : Int) + wrap64 (dR : Int))))
  else (byG (Nat.gcd cM dM) e, restN (sumF (rF cM cR) (rS cM cR) (rF dM dR) (rS dM dR)) (sumS (rF cM cR) (rS cM cR) (rF dM dR) (rS dM dR)) (byG (Nat.gcd cM dM) e))
end
section
open Go.RowKit
def subC (cM cR dM dR : Nat) (e : Bool) : Nat × Nat :=
  if cM = 0 ∧ dM = 0 then (0, bitsN (wrap64 (wrap64 (cR : Int) - wrap64 (dR : Int))))
  else (byG (Nat.gcd cM dM) e, restN (sumF (rF cM cR) (rS cM cR) (rF dM dR) (!rS dM dR)) (sumS (rF cM cR) (rS cM cR) (rF dM dR) (!rS dM dR)) (byG (Nat.gcd cM dM) e))
end
section
open Go.RowKit
theorem byG_pos {g : Nat} (h : 0 < g) (e : Bool) : 0 < byG g e := by
  unfold byG; split
  · exact h
  · exact twoN_pos g
theorem sval_not (f : Nat) (s : Bool) : sval f (!s) = -(sval f s) := by unfold sval; cases s <;> simp
end
end Go.Proofs.YtgkbegmaffknbaaGreat
