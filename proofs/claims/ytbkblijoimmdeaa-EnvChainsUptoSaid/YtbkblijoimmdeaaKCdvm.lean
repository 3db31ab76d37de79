import Derived.Test.YtbkblijoimmdeaaKCint
import Derived.Test.YtbkblijoimmdeaaKCjn
set_option linter.unusedVariables false
set_option linter.unusedSimpArgs false
set_option linter.unnecessarySimpa false
/- Cby Csum Csub Chd Cdvm -/
namespace Go.Proofs.Ytbkblijoimmdeaa
section
open Go.RowKit
/-- The class of x by g, if exact and g is below 2^64; by Two(g) else. -/
def byG (g : Nat) (exact : Bool) : Nat := if exact = true ∧ g < 18446744073709551616 then g else twoN g
theorem twoN_pos (g : Nat) : 0 < twoN g := by
  unfold twoN; split
  · exact Nat.pow_pos (by omega)
  · omega
theorem twoN_u64 (g : Nat) : U64 (twoN g) := by
  unfold twoN U64
  split
  · rename_i i h
    have h2 := List.mem_of_find?_eq_some h
    have h3 : i < 63 := by simpa using h2
    have : (2 : Nat) ^ i < 2 ^ 64 := Nat.pow_lt_pow_right (by omega) (by omega)
    exact this
  · omega
end
section
open Go.RowKit
def sumF (f1 : Nat) (s1 : Bool) (f2 : Nat) (s2 : Bool) : Nat := if s1 = s2 then f1 + f2 else if f1 < f2 then f2 - f1 else f1 - f2
def sumS (f1 : Nat) (s1 : Bool) (f2 : Nat) (s2 : Bool) : Bool := if s1 = s2 then s1 else if f1 < f2 then !s1 else s1
theorem sum_val (f1 : Nat) (s1 : Bool) (f2 : Nat) (s2 : Bool) : sval (sumF f1 s1 f2 s2) (sumS f1 s1 f2 s2) = sval f1 s1 + sval f2 s2 := by
  unfold sumF sumS sval
  by_cases h : f1 < f2
  · cases s1 <;> cases s2 <;> simp [h] <;> omega
  · cases s1 <;> cases s2 <;> simp [h] <;> omega
end
section
open Go.RowKit
def subC (cM cR dM dR : Nat) (e : Bool) : Nat × Nat :=
  if cM = 0 ∧ dM = 0 then (0, bitsN (wrap64 (wrap64 (cR : Int) - wrap64 (dR : Int))))
  else (byG (Nat.gcd cM dM) e, restN (sumF (rF cM cR) (rS cM cR) (rF dM dR) (!rS dM dR)) (sumS (rF cM cR) (rS cM cR) (rF dM dR) (!rS dM dR)) (byG (Nat.gcd cM dM) e))
end
section
open Go.RowKit
theorem sval_not (f : Nat) (s : Bool) : sval f (!s) = -(sval f s) := by unfold sval; cases s <;> simp
end
section
open Go.RowKit
theorem all_mem (v : Int) : MemC 1 0 v := by rw [memC_pos (by omega)]; simp
end
end Go.Proofs.Ytbkblijoimmdeaa
