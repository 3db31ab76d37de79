import Derived.Test.YtgkbegmaffknbaaGreatSCadd
import Derived.Test.YtgkbegmaffknbaaGreatSCjoin
import Derived.Test.YtgkbegmaffknbaaGreatSNset
set_option linter.unusedVariables false
set_option linter.unusedSimpArgs false
set_option linter.unnecessarySimpa false
/- Csub Chd Nap Cmlc Crmc -/
namespace Go.Proofs.YtgkbegmaffknbaaGreat
section
open Go.RowKit
def subC (cM cR dM dR : Nat) (e : Bool) : Nat × Nat :=
  if cM = 0 ∧ dM = 0 then (0, bitsN (wrap64 (wrap64 (cR : Int) - wrap64 (dR : Int))))
  else (byG (Nat.gcd cM dM) e, restN (sumF (rF cM cR) (rS cM cR) (rF dM dR) (!rS dM dR)) (sumS (rF cM cR) (rS cM cR) (rF dM dR) (!rS dM dR)) (byG (Nat.gcd cM dM) e))
end
section
open Go.RowKit
theorem byG_pos {g : Nat} (h : 0 < g) (e : Bool) : 0 < byG g e := by
  unfold byG; split
  · exact h
  · exact twoN_pos g
theorem sval_not (f : Nat) (s : Bool) : sval f (!s) = -(sval f s) := by unfold sval; cases s <;> simp
end
section
open Go.RowKit
theorem hull_in {S : Int → Prop} {l h : Int} (H : Hull S l h) (hS : ∀ v, S v → In64 v) : In64 l ∧ In64 h := by
  rcases H with ⟨rfl, rfl, _⟩ | ⟨a, b, _⟩
  · unfold In64; omega
  · exact ⟨hS _ a, hS _ b⟩
def addN (a b : Int × Int × Nat × Nat × Bool) : Int × Int × Nat × Nat × Bool :=
  makeN (addI a.1 a.2.1 b.1 b.2.1).1 (addI a.1 a.2.1 b.1 b.2.1).2.1 (addC a.2.2.1 a.2.2.2.1 b.2.2.1 b.2.2.2.1 (addI a.1 a.2.1 b.1 b.2.1).2.2).1 (addC a.2.2.1 a.2.2.2.1 b.2.2.1 b.2.2.2.1 (addI a.1 a.2.1 b.1 b.2.1).2.2).2
end
section
open Go.RowKit
theorem prod_big {a b : Nat} (ha : U64 a) (hb : U64 b) : Big (a * b) := by
  unfold U64 at *; unfold Big
  have := Nat.mul_le_mul (show a ≤ 18446744073709551615 by omega) (show b ≤ 18446744073709551615 by omega)
  omega
end
section
open Go.RowKit
theorem field_far (a b c : Value) (w : World) : (Instr.field 118 (.agg #[a, b, c]) 0).run Tryz.prog w = .ok (.agg #[a, b]) w := by kernel_rfl
attribute [local go_sem] field_far
end
end Go.Proofs.YtgkbegmaffknbaaGreat
