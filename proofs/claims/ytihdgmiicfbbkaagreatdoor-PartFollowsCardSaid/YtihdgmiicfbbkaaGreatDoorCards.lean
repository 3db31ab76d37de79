/-
  DERIVED. GIVEN WITH THE SEED: THE CARDS: each row of YtihdgmiicfbbkaaGreatDoorRows.lean that lists a variable, with what it lists TIED to the program's text (the seventh form; the later family's looks); each row that meets fmt, with fmt's text TOLD by the authors' own Lean function (tested against real Go, not proved from fmt's source: count such statements apart). THE CARD IS WHAT COUNTS. Prove the row's statement (the work); the ties are given (YtihdgmiicfbbkaaGreatDoorTie.lean); close each card by the builder's one call (the guide's Derived/Test/ToyasCard.lean, 'card_holds'). Laid BY PROGRAM, IN A SANDBOX (cutbox-door.mjs). By AI agents, Wed Nov 11 2026. No macro, syntax, notation, axiom, sorry.
-/
import Derived.Test.YtihdgmiicfbbkaaGreatDoorRows
import GoSem.ClaimSeven
namespace Go.Proofs.YtihdgmiicfbbkaaGreatDoor
namespace Rows

/-- THE TIED CARD OF 'winnowlaw20.PartFollows'. -/
def partFollowsCard : Claim7 := { stood := { row := partFollowsRow, standIns := [], harness := (true, "b69d7dbc2ad311d426c9f8591a67ffa5f5fa223f9ea97a691a8d4baabd86a243"), looks := true }, kinds := [], alts := [], laidByText := true, laidKinds := [.data, .data, .data, .handle, .sentinel, .sentinel, .data, .data], laidTests := true, laidLooks := .later }
def PartFollowsCardSaid : Prop := Claim7.holds Tryz.pinned (.plain (OpenSpec.ofChange partFollowsSpec)) partFollowsCard

/-- THE SECOND FORM's CARD OF 'winnowlaw20.PartFollows'. -/
def partFollowsUptoCard : Claim7 := { stood := { row := partFollowsUptoRow, standIns := [], harness := (true, "b69d7dbc2ad311d426c9f8591a67ffa5f5fa223f9ea97a691a8d4baabd86a243"), looks := true }, kinds := [], alts := [], laidByText := true, laidKinds := [.data, .data, .data, .handle, .sentinel, .sentinel, .data, .data], laidTests := true, laidLooks := .later }
def PartFollowsUptoCardSaid : Prop := Claim7.holds Tryz.pinned (.plain (OpenSpec.upto partFollowsSpec)) partFollowsUptoCard
end Rows
end Go.Proofs.YtihdgmiicfbbkaaGreatDoor
