/-
  DERIVED. GIVEN WITH THE SEED: THE CARDS: each row of YtbndcaglohfnbaaGreatDoorRows.lean that lists a variable, with what it lists TIED to the program's text (the seventh form; the later family's looks); each row that meets fmt, with fmt's text TOLD by the authors' own Lean function (tested against real Go, not proved from fmt's source: count such statements apart). THE CARD IS WHAT COUNTS. Prove the row's statement (the work); the ties are given (YtbndcaglohfnbaaGreatDoorTie.lean); close each card by the builder's one call (the guide's Derived/Test/ToyasCard.lean, 'card_holds'). Laid BY PROGRAM, IN A SANDBOX (cutbox-door.mjs). By AI agents, Wed Nov 11 2026. No macro, syntax, notation, axiom, sorry.
-/
import Derived.Test.YtbndcaglohfnbaaGreatDoorRows
import GoSem.ClaimSeven
namespace Go.Proofs.YtbndcaglohfnbaaGreatDoor
namespace Rows

/-- THE TIED CARD OF 'winnowlaw08.CfgFlows'. -/
def cfgFlowsCard : Claim7 := { stood := { row := cfgFlowsRow, standIns := [], harness := (true, "9fb484e65b82b414f9acdef3e1a1b8110815e15297da0a7508b6e0ae0355815a"), looks := false }, kinds := [], alts := [], laidByText := true, laidKinds := [.sentinel, .data, .data], laidTests := true, laidLooks := .later }
def CfgFlowsCardSaid : Prop := Claim7.holds Tryz.pinned (.plain (OpenSpec.ofChange cfgFlowsSpec)) cfgFlowsCard

/-- THE TIED CARD OF 'winnowlaw08.CfgRefuses'. -/
def cfgRefusesCard : Claim7 := { stood := { row := cfgRefusesRow, standIns := [], harness := (true, "9fb484e65b82b414f9acdef3e1a1b8110815e15297da0a7508b6e0ae0355815a"), looks := false }, kinds := [], alts := [], laidByText := true, laidKinds := [.sentinel, .data, .data], laidTests := true, laidLooks := .later }
def CfgRefusesCardSaid : Prop := Claim7.holds Tryz.pinned (.plain (OpenSpec.ofChange cfgRefusesSpec)) cfgRefusesCard

/-- THE TIED CARD OF 'winnowlaw08.CfgTexts'. -/
def cfgTextsCard : Claim7 := { stood := { row := cfgTextsRow, standIns := [], harness := (true, "9fb484e65b82b414f9acdef3e1a1b8110815e15297da0a7508b6e0ae0355815a"), looks := false }, kinds := [], alts := [], laidByText := true, laidKinds := [.sentinel, .data, .data], laidTests := true, laidLooks := .later }
def CfgTextsCardSaid : Prop := Claim7.holds Tryz.pinned (.plain (OpenSpec.ofChange cfgTextsSpec)) cfgTextsCard

/-- THE TIED CARD OF 'winnowlaw08.CfgLowers'. -/
def cfgLowersCard : Claim7 := { stood := { row := cfgLowersRow, standIns := [], harness := (true, "9fb484e65b82b414f9acdef3e1a1b8110815e15297da0a7508b6e0ae0355815a"), looks := false }, kinds := [], alts := [], laidByText := true, laidKinds := [.sentinel, .data, .data], laidTests := true, laidLooks := .later }
def CfgLowersCardSaid : Prop := Claim7.holds Tryz.pinned (.plain (OpenSpec.ofChange cfgLowersSpec)) cfgLowersCard

/-- THE TIED CARD OF 'winnowlaw08.CfgKept'. -/
def cfgKeptCard : Claim7 := { stood := { row := cfgKeptRow, standIns := [], harness := (true, "9fb484e65b82b414f9acdef3e1a1b8110815e15297da0a7508b6e0ae0355815a"), looks := false }, kinds := [], alts := [], laidByText := true, laidKinds := [.data, .data, .data, .sentinel, .data, .data], laidTests := true, laidLooks := .later }
def CfgKeptCardSaid : Prop := Claim7.holds Tryz.pinned (.plain (OpenSpec.ofChange cfgKeptSpec)) cfgKeptCard

/-- THE SECOND FORM's CARD OF 'winnowlaw08.CfgFlows'. -/
def cfgFlowsUptoCard : Claim7 := { stood := { row := cfgFlowsUptoRow, standIns := [], harness := (true, "9fb484e65b82b414f9acdef3e1a1b8110815e15297da0a7508b6e0ae0355815a"), looks := false }, kinds := [], alts := [], laidByText := true, laidKinds := [.sentinel, .data, .data], laidTests := true, laidLooks := .later }
def CfgFlowsUptoCardSaid : Prop := Claim7.holds Tryz.pinned (.plain (OpenSpec.upto cfgFlowsSpec)) cfgFlowsUptoCard

/-- THE SECOND FORM's CARD OF 'winnowlaw08.CfgRefuses'. -/
def cfgRefusesUptoCard : Claim7 := { stood := { row := cfgRefusesUptoRow, standIns := [], harness := (true, "9fb484e65b82b414f9acdef3e1a1b8110815e15297da0a7508b6e0ae0355815a"), looks := false }, kinds := [], alts := [], laidByText := true, laidKinds := [.sentinel, .data, .data], laidTests := true, laidLooks := .later }
def CfgRefusesUptoCardSaid : Prop := Claim7.holds Tryz.pinned (.plain (OpenSpec.upto cfgRefusesSpec)) cfgRefusesUptoCard

/-- THE SECOND FORM's CARD OF 'winnowlaw08.CfgTexts'. -/
def cfgTextsUptoCard : Claim7 := { stood := { row := cfgTextsUptoRow, standIns := [], harness := (true, "9fb484e65b82b414f9acdef3e1a1b8110815e15297da0a7508b6e0ae0355815a"), looks := false }, kinds := [], alts := [], laidByText := true, laidKinds := [.sentinel, .data, .data], laidTests := true, laidLooks := .later }
def CfgTextsUptoCardSaid : Prop := Claim7.holds Tryz.pinned (.plain (OpenSpec.upto cfgTextsSpec)) cfgTextsUptoCard

/-- THE SECOND FORM's CARD OF 'winnowlaw08.CfgLowers'. -/
def cfgLowersUptoCard : Claim7 := { stood := { row := cfgLowersUptoRow, standIns := [], harness := (true, "9fb484e65b82b414f9acdef3e1a1b8110815e15297da0a7508b6e0ae0355815a"), looks := false }, kinds := [], alts := [], laidByText := true, laidKinds := [.sentinel, .data, .data], laidTests := true, laidLooks := .later }
def CfgLowersUptoCardSaid : Prop := Claim7.holds Tryz.pinned (.plain (OpenSpec.upto cfgLowersSpec)) cfgLowersUptoCard

/-- THE SECOND FORM's CARD OF 'winnowlaw08.CfgKept'. -/
def cfgKeptUptoCard : Claim7 := { stood := { row := cfgKeptUptoRow, standIns := [], harness := (true, "9fb484e65b82b414f9acdef3e1a1b8110815e15297da0a7508b6e0ae0355815a"), looks := false }, kinds := [], alts := [], laidByText := true, laidKinds := [.data, .data, .data, .sentinel, .data, .data], laidTests := true, laidLooks := .later }
def CfgKeptUptoCardSaid : Prop := Claim7.holds Tryz.pinned (.plain (OpenSpec.upto cfgKeptSpec)) cfgKeptUptoCard
end Rows
end Go.Proofs.YtbndcaglohfnbaaGreatDoor
