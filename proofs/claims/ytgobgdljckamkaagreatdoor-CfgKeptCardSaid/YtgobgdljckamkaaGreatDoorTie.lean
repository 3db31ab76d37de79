/-
  DERIVED. GIVEN WITH THE SEED: THE PROGRAM's TIES (one call each: nine closed facts by the kernel) AND EACH ROW's TIE, after the 31st guide's Derived/Test/Toyas{Tie, Card}.lean. No idea stands in it: it is a product of the set-up. Laid BY PROGRAM, IN A SANDBOX (cutbox-door.mjs). By AI agents, Wed Nov 11 2026. No macro, syntax, notation, axiom, sorry.
-/
import Derived.Test.YtgobgdljckamkaaGreatDoorRows
import Derived.LaidByTextLater
import Derived.SevenTiedAt
import Derived.LaidSub
import Derived.LaidOnce
namespace Go.Proofs.YtgobgdljckamkaaGreatDoor
open Go
set_option maxRecDepth 100000
theorem seatTie1 : Tryz.prog.laidByTextLater [("math/bits.deBruijn32tab", Rows.laid_math_bits_deBruijn32tab), ("math/bits.deBruijn64tab", Rows.laid_math_bits_deBruijn64tab), ("internal/strconv.uint64pow10", Rows.laid_internal_strconv_uint64pow10), ("winnow/api.ErrReject", Rows.laid_winnow_api_ErrReject), ("winnow/parse.rules", Rows.laid_winnow_parse_rules), ("winnow/cfg.steps", Rows.laid_winnow_cfg_steps)] [.data, .data, .data, .sentinel, .data, .data] true :=
  Program.laidByTextLater_by_one 86 8 145 (by kernel_rfl) (by kernel_rfl) (by kernel_rfl) (by kernel_rfl) (by kernel_rfl) (by kernel_rfl) (fun _ _ => by kernel_rfl)
theorem noOwnUnsafe : Tryz.pinned.checked.prog.headLifts.contains "ownunsafe" = false := by kernel_rfl
theorem tie : Tryz.prog.laidByTextLater [("winnow/api.ErrReject", Rows.laid_winnow_api_ErrReject), ("winnow/parse.rules", Rows.laid_winnow_parse_rules), ("winnow/cfg.steps", Rows.laid_winnow_cfg_steps)] [.sentinel, .data, .data] true :=
  Program.laidByTextLater.sub seatTie1 ["winnow/api.ErrReject", "winnow/parse.rules", "winnow/cfg.steps"] (by kernel_rfl) (by kernel_rfl)
theorem cfgLowers_row_tie : Rows.cfgLowersRow.laidByTextAt .later Tryz.pinned [.sentinel, .data, .data] true :=
  OpenClaim.laidByTextAt_later rfl rfl tie noOwnUnsafe
theorem tie2 : Tryz.prog.laidByTextLater [("math/bits.deBruijn32tab", Rows.laid_math_bits_deBruijn32tab), ("math/bits.deBruijn64tab", Rows.laid_math_bits_deBruijn64tab), ("internal/strconv.uint64pow10", Rows.laid_internal_strconv_uint64pow10), ("winnow/api.ErrReject", Rows.laid_winnow_api_ErrReject), ("winnow/parse.rules", Rows.laid_winnow_parse_rules), ("winnow/cfg.steps", Rows.laid_winnow_cfg_steps)] [.data, .data, .data, .sentinel, .data, .data] true :=
  Program.laidByTextLater.sub seatTie1 ["math/bits.deBruijn32tab", "math/bits.deBruijn64tab", "internal/strconv.uint64pow10", "winnow/api.ErrReject", "winnow/parse.rules", "winnow/cfg.steps"] (by kernel_rfl) (by kernel_rfl)
theorem cfgKept_row_tie : Rows.cfgKeptRow.laidByTextAt .later Tryz.pinned [.data, .data, .data, .sentinel, .data, .data] true :=
  OpenClaim.laidByTextAt_later rfl rfl tie2 noOwnUnsafe
theorem cfgLowersUpto_row_tie : Rows.cfgLowersUptoRow.laidByTextAt .later Tryz.pinned [.sentinel, .data, .data] true :=
  OpenClaim.laidByTextAt_later rfl rfl tie noOwnUnsafe
theorem cfgKeptUpto_row_tie : Rows.cfgKeptUptoRow.laidByTextAt .later Tryz.pinned [.data, .data, .data, .sentinel, .data, .data] true :=
  OpenClaim.laidByTextAt_later rfl rfl tie2 noOwnUnsafe
end Go.Proofs.YtgobgdljckamkaaGreatDoor
