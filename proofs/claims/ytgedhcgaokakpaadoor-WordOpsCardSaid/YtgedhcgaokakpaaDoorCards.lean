/-
  DERIVED. GIVEN WITH THE SEED: THE CARDS: each row of YtgedhcgaokakpaaDoorRows.lean that lists a variable, with what it lists TIED to the program's text (the seventh form; the later family's looks); each row that meets fmt, with fmt's text TOLD by the authors' own Lean function (tested against real Go, not proved from fmt's source: count such statements apart). THE CARD IS WHAT COUNTS. Prove the row's statement (the work); the ties are given (YtgedhcgaokakpaaDoorTie.lean); close each card by the builder's one call (the guide's Derived/Test/ToyasCard.lean, 'card_holds'). Laid BY PROGRAM, IN A SANDBOX (cutbox-door.mjs). By AI agents, Wed Nov 11 2026. No macro, syntax, notation, axiom, sorry.
-/
import Derived.Test.YtgedhcgaokakpaaDoorRows
import GoSem.ClaimSeven
namespace Go.Proofs.YtgedhcgaokakpaaDoor
namespace Rows

/-- THE TIED CARD OF 'winnowlaw01.WordDivides'. -/
def wordDividesCard : Claim7 := { stood := { row := wordDividesRow, standIns := [], harness := (true, "6ab153261a3fb35296a41d743e3f1175b85474f94a962bf8bdb7e7fa2d36b24a"), looks := false }, kinds := [], alts := [], laidByText := true, laidKinds := [.data, .data, .data], laidTests := true, laidLooks := .later }
def WordDividesCardSaid : Prop := Claim7.holds Tryd.pinned (.plain (OpenSpec.ofChange wordDividesSpec)) wordDividesCard

/-- THE TIED CARD OF 'winnowlaw01.WordWhole'. -/
def wordWholeCard : Claim7 := { stood := { row := wordWholeRow, standIns := [], harness := (true, "6ab153261a3fb35296a41d743e3f1175b85474f94a962bf8bdb7e7fa2d36b24a"), looks := false }, kinds := [], alts := [], laidByText := true, laidKinds := [.data, .data, .data], laidTests := true, laidLooks := .later }
def WordWholeCardSaid : Prop := Claim7.holds Tryd.pinned (.plain (OpenSpec.ofChange wordWholeSpec)) wordWholeCard

/-- THE TIED CARD OF 'winnowlaw01.WordTexts'. -/
def wordTextsCard : Claim7 := { stood := { row := wordTextsRow, standIns := [], harness := (true, "6ab153261a3fb35296a41d743e3f1175b85474f94a962bf8bdb7e7fa2d36b24a"), looks := false }, kinds := [], alts := [], laidByText := true, laidKinds := [.data, .data, .data], laidTests := true, laidLooks := .later }
def WordTextsCardSaid : Prop := Claim7.holds Tryd.pinned (.plain (OpenSpec.ofChange wordTextsSpec)) wordTextsCard

/-- THE TIED CARD OF 'winnowlaw01.WordOps'. -/
def wordOpsCard : Claim7 := { stood := { row := wordOpsRow, standIns := [], harness := (true, "6ab153261a3fb35296a41d743e3f1175b85474f94a962bf8bdb7e7fa2d36b24a"), looks := false }, kinds := [], alts := [], laidByText := true, laidKinds := [.data, .data, .data], laidTests := true, laidLooks := .later }
def WordOpsCardSaid : Prop := Claim7.holds Tryd.pinned (.plain (OpenSpec.ofChange wordOpsSpec)) wordOpsCard

/-- THE SECOND FORM's CARD OF 'winnowlaw01.WordDivides'. -/
def wordDividesUptoCard : Claim7 := { stood := { row := wordDividesUptoRow, standIns := [], harness := (true, "6ab153261a3fb35296a41d743e3f1175b85474f94a962bf8bdb7e7fa2d36b24a"), looks := false }, kinds := [], alts := [], laidByText := true, laidKinds := [.data, .data, .data], laidTests := true, laidLooks := .later }
def WordDividesUptoCardSaid : Prop := Claim7.holds Tryd.pinned (.plain (OpenSpec.upto wordDividesSpec)) wordDividesUptoCard

/-- THE SECOND FORM's CARD OF 'winnowlaw01.WordWhole'. -/
def wordWholeUptoCard : Claim7 := { stood := { row := wordWholeUptoRow, standIns := [], harness := (true, "6ab153261a3fb35296a41d743e3f1175b85474f94a962bf8bdb7e7fa2d36b24a"), looks := false }, kinds := [], alts := [], laidByText := true, laidKinds := [.data, .data, .data], laidTests := true, laidLooks := .later }
def WordWholeUptoCardSaid : Prop := Claim7.holds Tryd.pinned (.plain (OpenSpec.upto wordWholeSpec)) wordWholeUptoCard

/-- THE SECOND FORM's CARD OF 'winnowlaw01.WordTexts'. -/
def wordTextsUptoCard : Claim7 := { stood := { row := wordTextsUptoRow, standIns := [], harness := (true, "6ab153261a3fb35296a41d743e3f1175b85474f94a962bf8bdb7e7fa2d36b24a"), looks := false }, kinds := [], alts := [], laidByText := true, laidKinds := [.data, .data, .data], laidTests := true, laidLooks := .later }
def WordTextsUptoCardSaid : Prop := Claim7.holds Tryd.pinned (.plain (OpenSpec.upto wordTextsSpec)) wordTextsUptoCard

/-- THE SECOND FORM's CARD OF 'winnowlaw01.WordOps'. -/
def wordOpsUptoCard : Claim7 := { stood := { row := wordOpsUptoRow, standIns := [], harness := (true, "6ab153261a3fb35296a41d743e3f1175b85474f94a962bf8bdb7e7fa2d36b24a"), looks := false }, kinds := [], alts := [], laidByText := true, laidKinds := [.data, .data, .data], laidTests := true, laidLooks := .later }
def WordOpsUptoCardSaid : Prop := Claim7.holds Tryd.pinned (.plain (OpenSpec.upto wordOpsSpec)) wordOpsUptoCard
end Rows
end Go.Proofs.YtgedhcgaokakpaaDoor
