/-
  DERIVED. GIVEN WITH THE SEED: THE CARDS: each row of YtgobgdljckamkaaGreatDoorRows.lean that lists a variable, with what it lists TIED to the program's text (the seventh form; the later family's looks); each row that meets fmt, with fmt's text TOLD by the authors' own Lean function (tested against real Go, not proved from fmt's source: count such statements apart). THE CARD IS WHAT COUNTS. Prove the row's statement (the work); the ties are given (YtgobgdljckamkaaGreatDoorTie.lean); close each card by the builder's one call (the guide's Derived/Test/ToyasCard.lean, 'card_holds'). Laid BY PROGRAM, IN A SANDBOX (cutbox-door.mjs). By AI agents, Wed Nov 11 2026. No macro, syntax, notation, axiom, sorry.
-/
import Derived.Test.YtgobgdljckamkaaGreatDoorRows
import GoSem.ClaimSeven
namespace Go.Proofs.YtgobgdljckamkaaGreatDoor
namespace Rows

/-- THE TIED CARD OF 'winnowlaw08.CfgLowers'. -/
def cfgLowersCard : Claim7 := { stood := { row := cfgLowersRow, standIns := [], harness := (true, "9577898b32b6c00f3523b14d1ed66235ce827ddac779d5b08acd1eb702068621"), looks := false }, kinds := [], alts := [], laidByText := true, laidKinds := [.sentinel, .data, .data], laidTests := true, laidLooks := .later }
def CfgLowersCardSaid : Prop := Claim7.holds Tryz.pinned (.plain (OpenSpec.ofChange cfgLowersSpec)) cfgLowersCard

/-- THE TIED CARD OF 'winnowlaw08.CfgKept'. -/
def cfgKeptCard : Claim7 := { stood := { row := cfgKeptRow, standIns := [], harness := (true, "9577898b32b6c00f3523b14d1ed66235ce827ddac779d5b08acd1eb702068621"), looks := false }, kinds := [], alts := [], laidByText := true, laidKinds := [.data, .data, .data, .sentinel, .data, .data], laidTests := true, laidLooks := .later }
def CfgKeptCardSaid : Prop := Claim7.holds Tryz.pinned (.plain (OpenSpec.ofChange cfgKeptSpec)) cfgKeptCard

/-- THE SECOND FORM's CARD OF 'winnowlaw08.CfgLowers'. -/
def cfgLowersUptoCard : Claim7 := { stood := { row := cfgLowersUptoRow, standIns := [], harness := (true, "9577898b32b6c00f3523b14d1ed66235ce827ddac779d5b08acd1eb702068621"), looks := false }, kinds := [], alts := [], laidByText := true, laidKinds := [.sentinel, .data, .data], laidTests := true, laidLooks := .later }
def CfgLowersUptoCardSaid : Prop := Claim7.holds Tryz.pinned (.plain (OpenSpec.upto cfgLowersSpec)) cfgLowersUptoCard

/-- THE SECOND FORM's CARD OF 'winnowlaw08.CfgKept'. -/
def cfgKeptUptoCard : Claim7 := { stood := { row := cfgKeptUptoRow, standIns := [], harness := (true, "9577898b32b6c00f3523b14d1ed66235ce827ddac779d5b08acd1eb702068621"), looks := false }, kinds := [], alts := [], laidByText := true, laidKinds := [.data, .data, .data, .sentinel, .data, .data], laidTests := true, laidLooks := .later }
def CfgKeptUptoCardSaid : Prop := Claim7.holds Tryz.pinned (.plain (OpenSpec.upto cfgKeptSpec)) cfgKeptUptoCard
end Rows
end Go.Proofs.YtgobgdljckamkaaGreatDoor
