import Derived.Test.YtgkbegmaffknbaaGreatFChd
import Derived.Test.YtgkbegmaffknbaaGreatFNset
set_option linter.unusedVariables false
set_option linter.unusedSimpArgs false
/- Nap -/
namespace Go.Proofs.YtgkbegmaffknbaaGreat
open Go.RowKit
theorem hull_in {S : Int → Prop} {l h : Int} (H : Hull S l h) (hS : ∀ v, S v → In64 v) : In64 l ∧ In64 h := by
  rcases H with ⟨rfl, rfl, _⟩ | ⟨a, b, _⟩
  · unfold In64; omega
  · exact ⟨hS _ a, hS _ b⟩
def addN (a b : Int × Int × Nat × Nat × Bool) : Int × Int × Nat × Nat × Bool :=
  makeN (addI a.1 a.2.1 b.1 b.2.1).1 (addI a.1 a.2.1 b.1 b.2.1).2.1 (addC a.2.2.1 a.2.2.2.1 b.2.2.1 b.2.2.2.1 (addI a.1 a.2.1 b.1 b.2.1).2.2).1 (addC a.2.2.1 a.2.2.2.1 b.2.2.1 b.2.2.2.1 (addI a.1 a.2.1 b.1 b.2.1).2.2).2
end Go.Proofs.YtgkbegmaffknbaaGreat
