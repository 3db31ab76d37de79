/-
  DERIVED. GIVEN WITH THE SEED: THE CARDS: each row of YthoegkcpmgalbaaGreatDoorRows.lean that lists a variable, with what it lists TIED to the program's text (the seventh form; the later family's looks); each row that meets fmt, with fmt's text TOLD by the authors' own Lean function (tested against real Go, not proved from fmt's source: count such statements apart). THE CARD IS WHAT COUNTS. Prove the row's statement (the work); the ties are given (YthoegkcpmgalbaaGreatDoorTie.lean); close each card by the builder's one call (the guide's Derived/Test/ToyasCard.lean, 'card_holds'). Laid BY PROGRAM, IN A SANDBOX (cutbox-door.mjs). By AI agents, Wed Nov 11 2026. No macro, syntax, notation, axiom, sorry.
-/
import Derived.Test.YthoegkcpmgalbaaGreatDoorRows
import GoSem.ClaimSeven
namespace Go.Proofs.YthoegkcpmgalbaaGreatDoor
namespace Rows

/-- THE TIED CARD OF 'winnowlaw20.PartSplits'. -/
def partSplitsCard : Claim7 := { stood := { row := partSplitsRow, standIns := [], harness := (true, "f4036cf421fed5d8561c1464d196b2da1ec894645c89305de017d3ea4dfcbc1e"), looks := true }, kinds := [], alts := [], laidByText := true, laidKinds := [.data, .data, .data, .handle, .sentinel, .sentinel, .data, .data], laidTests := true, laidLooks := .later }
def PartSplitsCardSaid : Prop := Claim7.holds Tryz.pinned (.plain (OpenSpec.ofChange partSplitsSpec)) partSplitsCard

/-- THE SECOND FORM's CARD OF 'winnowlaw20.PartSplits'. -/
def partSplitsUptoCard : Claim7 := { stood := { row := partSplitsUptoRow, standIns := [], harness := (true, "f4036cf421fed5d8561c1464d196b2da1ec894645c89305de017d3ea4dfcbc1e"), looks := true }, kinds := [], alts := [], laidByText := true, laidKinds := [.data, .data, .data, .handle, .sentinel, .sentinel, .data, .data], laidTests := true, laidLooks := .later }
def PartSplitsUptoCardSaid : Prop := Claim7.holds Tryz.pinned (.plain (OpenSpec.upto partSplitsSpec)) partSplitsUptoCard
end Rows
end Go.Proofs.YthoegkcpmgalbaaGreatDoor
