/-
  DERIVED. GIVEN WITH THE SEED: THE CARDS: each row of YtpongdpnbclchaaGreatDoorRows.lean that lists a variable, with what it lists TIED to the program's text (the seventh form; the later family's looks); each row that meets fmt, with fmt's text TOLD by the authors' own Lean function (tested against real Go, not proved from fmt's source: count such statements apart). THE CARD IS WHAT COUNTS. Prove the row's statement (the work); the ties are given (YtpongdpnbclchaaGreatDoorTie.lean); close each card by the builder's one call (the guide's Derived/Test/ToyasCard.lean, 'card_holds'). Laid BY PROGRAM, IN A SANDBOX (cutbox-door.mjs). By AI agents, Wed Nov 11 2026. No macro, syntax, notation, axiom, sorry.
-/
import Derived.Test.YtpongdpnbclchaaGreatDoorRows
import GoSem.ClaimSeven
namespace Go.Proofs.YtpongdpnbclchaaGreatDoor
namespace Rows

/-- THE TIED CARD OF 'winnowlaw20.PartSteps'. -/
def partStepsCard : Claim7 := { stood := { row := partStepsRow, standIns := [], harness := (true, "761c68465f44180d5b957355b62e78a626d229a46567fe94c2a4581c1d263d65"), looks := true }, kinds := [], alts := [], laidByText := true, laidKinds := [.data, .data, .data, .handle, .sentinel, .sentinel, .data, .data], laidTests := true, laidLooks := .later }
def PartStepsCardSaid : Prop := Claim7.holds Tryz.pinned (.plain (OpenSpec.ofChange partStepsSpec)) partStepsCard

/-- THE SECOND FORM's CARD OF 'winnowlaw20.PartSteps'. -/
def partStepsUptoCard : Claim7 := { stood := { row := partStepsUptoRow, standIns := [], harness := (true, "761c68465f44180d5b957355b62e78a626d229a46567fe94c2a4581c1d263d65"), looks := true }, kinds := [], alts := [], laidByText := true, laidKinds := [.data, .data, .data, .handle, .sentinel, .sentinel, .data, .data], laidTests := true, laidLooks := .later }
def PartStepsUptoCardSaid : Prop := Claim7.holds Tryz.pinned (.plain (OpenSpec.upto partStepsSpec)) partStepsUptoCard
end Rows
end Go.Proofs.YtpongdpnbclchaaGreatDoor
