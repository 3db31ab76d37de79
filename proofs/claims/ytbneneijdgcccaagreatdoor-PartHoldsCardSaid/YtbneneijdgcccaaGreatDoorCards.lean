/-
  DERIVED. GIVEN WITH THE SEED: THE CARDS: each row of YtbneneijdgcccaaGreatDoorRows.lean that lists a variable, with what it lists TIED to the program's text (the seventh form; the later family's looks); each row that meets fmt, with fmt's text TOLD by the authors' own Lean function (tested against real Go, not proved from fmt's source: count such statements apart). THE CARD IS WHAT COUNTS. Prove the row's statement (the work); the ties are given (YtbneneijdgcccaaGreatDoorTie.lean); close each card by the builder's one call (the guide's Derived/Test/ToyasCard.lean, 'card_holds'). Laid BY PROGRAM, IN A SANDBOX (cutbox-door.mjs). By AI agents, Wed Nov 11 2026. No macro, syntax, notation, axiom, sorry.
-/
import Derived.Test.YtbneneijdgcccaaGreatDoorRows
import GoSem.ClaimSeven
namespace Go.Proofs.YtbneneijdgcccaaGreatDoor
namespace Rows

/-- THE TIED CARD OF 'winnowlaw20.PartHolds'. -/
def partHoldsCard : Claim7 := { stood := { row := partHoldsRow, standIns := [], harness := (true, "4e19452ab41365e9860eb4f0d7033070ab7d303990451aa24e4b5bf988b8bf0f"), looks := true }, kinds := [], alts := [], laidByText := true, laidKinds := [.data, .data, .data, .handle, .sentinel, .sentinel, .data, .data], laidTests := true, laidLooks := .later }
def PartHoldsCardSaid : Prop := Claim7.holds Tryz.pinned (.plain (OpenSpec.ofChange partHoldsSpec)) partHoldsCard

/-- THE SECOND FORM's CARD OF 'winnowlaw20.PartHolds'. -/
def partHoldsUptoCard : Claim7 := { stood := { row := partHoldsUptoRow, standIns := [], harness := (true, "4e19452ab41365e9860eb4f0d7033070ab7d303990451aa24e4b5bf988b8bf0f"), looks := true }, kinds := [], alts := [], laidByText := true, laidKinds := [.data, .data, .data, .handle, .sentinel, .sentinel, .data, .data], laidTests := true, laidLooks := .later }
def PartHoldsUptoCardSaid : Prop := Claim7.holds Tryz.pinned (.plain (OpenSpec.upto partHoldsSpec)) partHoldsUptoCard
end Rows
end Go.Proofs.YtbneneijdgcccaaGreatDoor
