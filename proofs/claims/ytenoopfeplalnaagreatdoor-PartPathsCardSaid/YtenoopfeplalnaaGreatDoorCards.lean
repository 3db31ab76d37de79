/-
  DERIVED. GIVEN WITH THE SEED: THE CARDS: each row of YtenoopfeplalnaaGreatDoorRows.lean that lists a variable, with what it lists TIED to the program's text (the seventh form; the later family's looks); each row that meets fmt, with fmt's text TOLD by the authors' own Lean function (tested against real Go, not proved from fmt's source: count such statements apart). THE CARD IS WHAT COUNTS. Prove the row's statement (the work); the ties are given (YtenoopfeplalnaaGreatDoorTie.lean); close each card by the builder's one call (the guide's Derived/Test/ToyasCard.lean, 'card_holds'). Laid BY PROGRAM, IN A SANDBOX (cutbox-door.mjs). By AI agents, Wed Nov 11 2026. No macro, syntax, notation, axiom, sorry.
-/
import Derived.Test.YtenoopfeplalnaaGreatDoorRows
import GoSem.ClaimSeven
namespace Go.Proofs.YtenoopfeplalnaaGreatDoor
namespace Rows

/-- THE TIED CARD OF 'winnowlaw20.PartPaths'. -/
def partPathsCard : Claim7 := { stood := { row := partPathsRow, standIns := [], harness := (true, "9a2b969c786366eae29e8987ca56867d5e2aed8ea50d29594116a2abc6facacc"), looks := true }, kinds := [], alts := [], laidByText := true, laidKinds := [.data, .data, .data, .handle, .sentinel, .sentinel, .data, .data], laidTests := true, laidLooks := .later }
def PartPathsCardSaid : Prop := Claim7.holds Tryz.pinned (.plain (OpenSpec.ofChange partPathsSpec)) partPathsCard

/-- THE SECOND FORM's CARD OF 'winnowlaw20.PartPaths'. -/
def partPathsUptoCard : Claim7 := { stood := { row := partPathsUptoRow, standIns := [], harness := (true, "9a2b969c786366eae29e8987ca56867d5e2aed8ea50d29594116a2abc6facacc"), looks := true }, kinds := [], alts := [], laidByText := true, laidKinds := [.data, .data, .data, .handle, .sentinel, .sentinel, .data, .data], laidTests := true, laidLooks := .later }
def PartPathsUptoCardSaid : Prop := Claim7.holds Tryz.pinned (.plain (OpenSpec.upto partPathsSpec)) partPathsUptoCard
end Rows
end Go.Proofs.YtenoopfeplalnaaGreatDoor
