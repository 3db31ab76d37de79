import Derived.Test.YtgkbegmaffknbabGreatRows
import Derived.WalkKit
import Derived.WalkSpells
import Derived.WalkSmall
import Derived.Deep.QuietTactic
import Derived.BigQuiet
import Derived.Test.YtgkbegmaffknbabGreatKCok
import Derived.Test.YtgkbegmaffknbabGreatKImath
set_option linter.unusedVariables false
set_option linter.unusedSimpArgs false
set_option linter.unnecessarySimpa false
/- Idiv Iref -/
namespace Go.Proofs.YtgkbegmaffknbabGreat
section
open Go.RowKit

/- Quotients: x.tdiv y with y above 0, or below. -/
def min4 (p q r s : Int) : Int := min (min p q) (min r s)
def max4 (p q r s : Int) : Int := max (max p q) (max r s)
end
section
open Go.RowKit
theorem infoI : (Tryz.prog.info? 24).map (·.size) = some 2 := by kernel_rfl
set_option maxHeartbeats 400000 in
theorem rhas_any (l h v : Int) (w0 w : World) (hok : Ok w0 w) :
    Calls Tryz.prog 26 #[.agg #[.int .i64 l, .int .i64 h], .int .i64 v] w fun e w' => e = .returned (.bool (hasI l h v)) ∧ Ok w0 w' := by
  go_enter Tryz.func26, Tryz.ntmps26
  go_wp2
  all_goals go_ret
  all_goals refine ⟨retb ?_, hok.alloc _⟩
  · unfold hasI; simp [*]
  · unfold hasI; rename_i h0; rw [decide_eq_false (show ¬ l ≤ v by omega), Bool.false_and]
set_option maxHeartbeats 400000 in
theorem rleq_any (al ah bl bh : Int) (w0 w : World) (hok : Ok w0 w) :
    Calls Tryz.prog 24 #[.agg #[.int .i64 al, .int .i64 ah], .agg #[.int .i64 bl, .int .i64 bh]] w fun e w' => e = .returned (.bool (leqI al ah bl bh)) ∧ Ok w0 w' := by
  go_enter Tryz.func24, Tryz.ntmps24
  go_wp2
  all_goals go_ret
  all_goals refine ⟨retb ?_, by repeat (first | exact hok | refine Ok.alloc ?_ _)⟩
  · unfold leqI; rename_i h1 h0; rw [decide_eq_true h0, Bool.true_and]
  · unfold leqI; rename_i h1 h0; rw [decide_eq_false (show ¬ bl ≤ al by omega), Bool.false_and, Bool.or_false]
  · unfold leqI; rename_i h0; rw [decide_eq_true h0, Bool.true_or]
end
end Go.Proofs.YtgkbegmaffknbabGreat
