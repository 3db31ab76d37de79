/-
  DERIVED. GIVEN WITH THE SEED: THE PROGRAM's TIES (one call each: nine closed facts by the kernel) AND EACH ROW's TIE, after the 31st guide's Derived/Test/Toyas{Tie, Card}.lean. No idea stands in it: it is a product of the set-up. Laid BY PROGRAM, IN A SANDBOX (cutbox-door.mjs). By AI agents, Wed Nov 11 2026. No macro, syntax, notation, axiom, sorry.
-/
import Derived.Test.YtklkpaekdpaloaaDoorRows
import Derived.LaidByTextLater
import Derived.SevenTiedAt
import Derived.LaidSub
import Derived.LaidOnce
namespace Go.Proofs.YtklkpaekdpaloaaDoor
open Go
set_option maxRecDepth 100000
theorem seatTie1 : Tryd.prog.laidByTextLater [("winnow/api.ErrReject", Rows.laid_winnow_api_ErrReject), ("winnow/parse.rules", Rows.laid_winnow_parse_rules), ("winnow/cfg.steps", Rows.laid_winnow_cfg_steps)] [.sentinel, .data, .data] true :=
  Program.laidByTextLater_by_one 71 8 145 (by kernel_rfl) (by kernel_rfl) (by kernel_rfl) (by kernel_rfl) (by kernel_rfl) (by kernel_rfl) (fun _ _ => by kernel_rfl)
theorem noOwnUnsafe : Tryd.pinned.checked.prog.headLifts.contains "ownunsafe" = false := by kernel_rfl
theorem tie : Tryd.prog.laidByTextLater [("winnow/api.ErrReject", Rows.laid_winnow_api_ErrReject), ("winnow/parse.rules", Rows.laid_winnow_parse_rules), ("winnow/cfg.steps", Rows.laid_winnow_cfg_steps)] [.sentinel, .data, .data] true :=
  Program.laidByTextLater.sub seatTie1 ["winnow/api.ErrReject", "winnow/parse.rules", "winnow/cfg.steps"] (by kernel_rfl) (by kernel_rfl)
theorem cfgBehind_row_tie : Rows.cfgBehindRow.laidByTextAt .later Tryd.pinned [.sentinel, .data, .data] true :=
  OpenClaim.laidByTextAt_later rfl rfl tie noOwnUnsafe
theorem cfgBehindUpto_row_tie : Rows.cfgBehindUptoRow.laidByTextAt .later Tryd.pinned [.sentinel, .data, .data] true :=
  OpenClaim.laidByTextAt_later rfl rfl tie noOwnUnsafe
end Go.Proofs.YtklkpaekdpaloaaDoor
