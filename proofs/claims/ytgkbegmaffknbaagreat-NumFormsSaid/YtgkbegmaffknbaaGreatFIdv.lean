import Derived.Test.YtgkbegmaffknbaaGreatFIcor
import Derived.Test.YtgkbegmaffknbaaGreatFIwid
set_option linter.unusedVariables false
set_option linter.unusedSimpArgs false
set_option linter.unnecessarySimpa false
/- Idv -/
namespace Go.Proofs.YtgkbegmaffknbaaGreat
open Go.RowKit
def J (p q : Int × Int) : Int × Int := joinI p.1 p.2 q.1 q.2
def M (p q : Int × Int) : Int × Int := meetI p.1 p.2 q.1 q.2
def C (p q : Int × Int) : Int × Int := cornersI p.1 p.2 q.1 q.2
def One (W w1 : World) (g : Nat) (o : Obj) : Prop := Ok W w1 ∧ w1.heap[g]? = some o ∧ W.heap.size ≤ g
def NP (R : Act → World → Prop) : Exit → Act → World → Prop
  | .normal, a, w => R a w
  | _, _, _ => False
theorem wp_cut2 {P : Program} {c : Code} {Q : Exit → Act → World → Prop} {a : Act} {w : World} (R : Act → World → Prop) (h1 : c.wp P (NP R) a w) (h2 : ∀ a' w', R a' w' → Q .normal a' w') : c.wp P Q a w :=
  Code.wp_mono (fun e a w h => by cases e <;> first | exact h2 _ _ h | exact (h : False).elim) h1
end Go.Proofs.YtgkbegmaffknbaaGreat
