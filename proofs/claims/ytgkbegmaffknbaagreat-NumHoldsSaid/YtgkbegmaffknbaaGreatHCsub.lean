import Derived.Test.YtgkbegmaffknbaaGreatHCint
import Derived.Test.YtgkbegmaffknbaaGreatHCsem
set_option linter.unusedVariables false
set_option linter.unusedSimpArgs false
set_option linter.unnecessarySimpa false
/- Cjn Cby Cneg Cup Cdown Csum Cadd Csub -/
namespace Go.Proofs.YtgkbegmaffknbaaGreat
section
open Go.RowKit
/-- The class of x by g. -/
def classC (x : Int) (g : Nat) : Nat × Nat := if g = 0 then (0, bitsN x) else (g, (x % (g : Int)).toNat)
/-- As it must be written. -/
def NormalC (M R : Nat) : Prop := M = 0 ∨ R < M
theorem classC_u64 {x : Int} {g : Nat} (hg : U64 g) : U64 (classC x g).1 ∧ U64 (classC x g).2 := by
  unfold classC U64 at *
  by_cases h : g = 0
  · rw [if_pos h]; exact ⟨by simp only; omega, bitsN_u64 x⟩
  · rw [if_neg h]
    have h2 := Int.emod_lt_of_pos x (show (0 : Int) < g by omega)
    exact ⟨hg, by simp only; omega⟩
def normC (M R : Nat) : Nat × Nat := (M, if 0 < M then R % M else R)
theorem normC_mem (M R : Nat) (v : Int) : MemC (normC M R).1 (normC M R).2 v ↔ MemC M R v := by
  unfold normC
  by_cases h : 0 < M
  · simp only [if_pos h, memC_pos h, Nat.mod_mod]
  · simp only [if_neg h]
theorem normC_normal (M R : Nat) : NormalC (normC M R).1 (normC M R).2 := by
  unfold normC NormalC
  by_cases h : 0 < M
  · exact Or.inr (by simp only [if_pos h]; exact Nat.mod_lt _ h)
  · exact Or.inl (by simp only; omega)
/-- Join(c, d). -/
def joinG (cM cR dM dR : Nat) : Nat := Nat.gcd (Nat.gcd cM dM) (rI cM cR - rI dM dR).natAbs
def joinC (cM cR dM dR : Nat) : Nat × Nat := classC (rI cM cR) (joinG cM cR dM dR)
theorem joinG_zero {cM cR dM dR : Nat} (h : joinG cM cR dM dR = 0) : cM = 0 ∧ dM = 0 ∧ rI cM cR = rI dM dR := by
  unfold joinG at h
  have h1 := Nat.gcd_eq_zero_iff.1 h
  have h2 := Nat.gcd_eq_zero_iff.1 h1.1
  exact ⟨h2.1, h2.2, by omega⟩
end
section
open Go.RowKit
/-- The class of x by g, if exact and g is below 2^64; by Two(g) else. -/
def byG (g : Nat) (exact : Bool) : Nat := if exact = true ∧ g < 18446744073709551616 then g else twoN g
theorem twoN_pos (g : Nat) : 0 < twoN g := by
  unfold twoN; split
  · exact Nat.pow_pos (by omega)
  · omega
theorem twoN_u64 (g : Nat) : U64 (twoN g) := by
  unfold twoN U64
  split
  · rename_i i h
    have h2 := List.mem_of_find?_eq_some h
    have h3 : i < 63 := by simpa using h2
    have : (2 : Nat) ^ i < 2 ^ 64 := Nat.pow_lt_pow_right (by omega) (by omega)
    exact this
  · omega
end
section
open Go.RowKit
def negC (M R : Nat) (e : Bool) : Nat × Nat :=
  if M = 0 then (0, bitsN (wrap64 (-(wrap64 (R : Int))))) else (byG M e, restN (rF M R) true (byG M e))
end
section
open Go.RowKit
attribute [local go_sem] field_lo
/-- The remainder of a class' number, and of v, by M. -/
def atN (M : Nat) (v : Int) : Nat := restN (rF 0 (bitsN v)) (rS 0 (bitsN v)) M
def upN (M R : Nat) (v : Int) : Nat := (restN (rF M R) (rS M R) M + (M - atN M v) % M) % M
def upC (M R : Nat) (v : Int) : Int × Bool :=
  if M = 0 then (if wrap64 (R : Int) < v then (0, false) else (wrap64 (R : Int), true))
  else if 9223372036854775807 - v < (upN M R v : Int) then (0, false) else (v + (upN M R v : Int), true)
end
section
open Go.RowKit
attribute [local go_sem] field_lo
def downN (M R : Nat) (v : Int) : Nat := (atN M v + (M - restN (rF M R) (rS M R) M) % M) % M
def downC (M R : Nat) (v : Int) : Int × Bool :=
  if M = 0 then (if v < wrap64 (R : Int) then (0, false) else (wrap64 (R : Int), true))
  else if v + 9223372036854775808 < (downN M R v : Int) then (0, false) else (v - (downN M R v : Int), true)
end
section
open Go.RowKit
def sumF (f1 : Nat) (s1 : Bool) (f2 : Nat) (s2 : Bool) : Nat := if s1 = s2 then f1 + f2 else if f1 < f2 then f2 - f1 else f1 - f2
def sumS (f1 : Nat) (s1 : Bool) (f2 : Nat) (s2 : Bool) : Bool := if s1 = s2 then s1 else if f1 < f2 then !s1 else s1
theorem sum_val (f1 : Nat) (s1 : Bool) (f2 : Nat) (s2 : Bool) : sval (sumF f1 s1 f2 s2) (sumS f1 s1 f2 s2) = sval f1 s1 + sval f2 s2 := by
  unfold sumF sumS sval
  by_cases h : f1 < f2
  · cases s1 <;> cases s2 <;> simp [h] <;> omega
  · cases s1 <;> cases s2 <;> simp [h] <;> omega
end
section
open Go.RowKit
def addC (cM cR dM dR : Nat) (e : Bool) : Nat × Nat :=
  if cM = 0 ∧ dM = 0 then (0, bitsN (wrap64 (wrap64 (cR : Int) + wrap64 (dR : Int))))
  else (byG (Nat.gcd cM dM) e, restN (sumF (rF cM cR) (rS cM cR) (rF dM dR) (rS dM dR)) (sumS (rF cM cR) (rS cM cR) (rF dM dR) (rS dM dR)) (byG (Nat.gcd cM dM) e))
end
section
open Go.RowKit
def subC (cM cR dM dR : Nat) (e : Bool) : Nat × Nat :=
  if cM = 0 ∧ dM = 0 then (0, bitsN (wrap64 (wrap64 (cR : Int) - wrap64 (dR : Int))))
  else (byG (Nat.gcd cM dM) e, restN (sumF (rF cM cR) (rS cM cR) (rF dM dR) (!rS dM dR)) (sumS (rF cM cR) (rS cM cR) (rF dM dR) (!rS dM dR)) (byG (Nat.gcd cM dM) e))
end
end Go.Proofs.YtgkbegmaffknbaaGreat
