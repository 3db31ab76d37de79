/-
  DERIVED. GIVEN WITH THE SEED: THE CARDS: each row of YtklkpaekdpaloaaDoorRows.lean that lists a variable, with what it lists TIED to the program's text (the seventh form; the later family's looks); each row that meets fmt, with fmt's text TOLD by the authors' own Lean function (tested against real Go, not proved from fmt's source: count such statements apart). THE CARD IS WHAT COUNTS. Prove the row's statement (the work); the ties are given (YtklkpaekdpaloaaDoorTie.lean); close each card by the builder's one call (the guide's Derived/Test/ToyasCard.lean, 'card_holds'). Laid BY PROGRAM, IN A SANDBOX (cutbox-door.mjs). By AI agents, Wed Nov 11 2026. No macro, syntax, notation, axiom, sorry.
-/
import Derived.Test.YtklkpaekdpaloaaDoorRows
import GoSem.ClaimSeven
namespace Go.Proofs.YtklkpaekdpaloaaDoor
namespace Rows

/-- THE TIED CARD OF 'winnowlaw08.CfgBehind'. -/
def cfgBehindCard : Claim7 := { stood := { row := cfgBehindRow, standIns := [], harness := (true, "9c8594dfef559abbf37bd3c0ac24ac373c9d968f09d69a9be6d057b4c53fb969"), looks := false }, kinds := [], alts := [], laidByText := true, laidKinds := [.sentinel, .data, .data], laidTests := true, laidLooks := .later }
def CfgBehindCardSaid : Prop := Claim7.holds Tryd.pinned (.plain (OpenSpec.ofChange cfgBehindSpec)) cfgBehindCard

/-- THE SECOND FORM's CARD OF 'winnowlaw08.CfgBehind'. -/
def cfgBehindUptoCard : Claim7 := { stood := { row := cfgBehindUptoRow, standIns := [], harness := (true, "9c8594dfef559abbf37bd3c0ac24ac373c9d968f09d69a9be6d057b4c53fb969"), looks := false }, kinds := [], alts := [], laidByText := true, laidKinds := [.sentinel, .data, .data], laidTests := true, laidLooks := .later }
def CfgBehindUptoCardSaid : Prop := Claim7.holds Tryd.pinned (.plain (OpenSpec.upto cfgBehindSpec)) cfgBehindUptoCard
end Rows
end Go.Proofs.YtklkpaekdpaloaaDoor
