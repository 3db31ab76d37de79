import Derived.Test.YtbkblijoimmdeaaRows
import Derived.WalkKit
import Derived.WalkSpells
import Derived.WalkSmall
import Derived.Deep.QuietTactic
import Derived.BigQuiet
import Derived.Test.YtbkblijoimmdeaaKCok
import Derived.Test.YtbkblijoimmdeaaKImath
set_option linter.unusedVariables false
set_option linter.unusedSimpArgs false
set_option linter.unnecessarySimpa false
/- Iref -/
namespace Go.Proofs.Ytbkblijoimmdeaa
open Go.RowKit
theorem infoI : (Try.prog.info? 41).map (·.size) = some 2 := by kernel_rfl
theorem joinI_a {al ah bl bh : Int} (h : ah < al) : joinI al ah bl bh = normI bl bh := by unfold joinI; rw [if_pos h]
theorem joinI_b {al ah bl bh : Int} (h : al ≤ ah) (g : bh < bl) : joinI al ah bl bh = (al, ah) := by unfold joinI; rw [if_neg (by omega), if_pos g]
theorem joinI_c {al ah bl bh : Int} (h : al ≤ ah) (g : bl ≤ bh) : joinI al ah bl bh = (min al bl, max ah bh) := by unfold joinI; rw [if_neg (by omega), if_neg (by omega)]
end Go.Proofs.Ytbkblijoimmdeaa
