/-
  No cell of these rows narrows 'for every input' (looked for: loops, veiled, ifaces, maps, wideKeys, modest, calm, conditions, laid).
  DERIVED. THE GIVEN ROWS OF THIS SEAT. 6 by the template 'for every input the law returns true; each argument reads behind the call as it read before'; 0 by the template 'total and deterministic' (their statements: YtgkbegmaffknbaaGreatTotals.lean).
  GIVEN WITH THE SEED: the statements are not yours to turn. If you find one false, say at which input.
  Laid BY PROGRAM, IN A SANDBOX (cutbox-rows.mjs): the forced cells as the released guide's own fill.sh prints them over the translation e5ef72548f69fdd5… (all of the seat's roots in one cut). By AI agents, Wed Nov 11 2026. No macro, syntax, notation, axiom, sorry.
-/
import Derived.Test.YtgkbegmaffknbaaGreatChecked
import GoSem.Claim
import GoSem.ClaimJoined
import GoSem.ClaimMapViews
import Derived.JoinedTies
import Derived.KernelRfl
namespace Go.Proofs.YtgkbegmaffknbaaGreat
/- THE CELL 'sum', in the pinned program and in every row, IS THE sha256 OF THE DUMP (.gsa) THAT YtgkbegmaffknbaaGreatProg.lean LOADS. Nothing in Lean hashes anything: it is a label: what it is worth is what the hold of that sum in a sandbox is worth. -/
noncomputable def Tryz.pinned : Pinned := { name := "ytgkbegmaffknbaagreat", sum := "e5ef72548f69fdd530af15eb28ccdc85fbbbbd9a1831182533292791ff3fea4b", checked := Tryz.checked }
namespace Rows
def none {H : Type} : Left H := { results := [], args := [] }

/-- 'winnowlaw13.NumForms': WHATEVER THE INPUT: true; the input reads as it did. -/
def numFormsSpec : ChangeSpec := { name := "numForms", fn := fun _ => fun
  | [d1, d2, d3, d4] => { results := [.lit (.bool true)], args := [d1, d2, d3, d4] }
  | _ => none }
def numFormsRow : OpenClaim := { program := "ytgkbegmaffknbaagreat", sum := "e5ef72548f69fdd530af15eb28ccdc85fbbbbd9a1831182533292791ff3fea4b", func := "winnow/winnowlaw13.NumForms", spec := "numForms", inPlace := ["math/bits.Sub64", "math/bits.Add64"], unfollowed := true, recurses := true, named := ["math/bits.divideError", "math/bits.overflowError"], apart := false }
def NumFormsSaid : Prop := numFormsRow.holds Tryz.pinned (OpenSpec.ofChange numFormsSpec)

/-- ITS FALSE NEIGHBOUR: 'it returns false'. Refute it at one input. -/
def numFormsWrong : ChangeSpec := { name := "numForms", fn := fun _ => fun
  | [d1, d2, d3, d4] => { results := [.lit (.bool false)], args := [d1, d2, d3, d4] }
  | _ => none }
def NumFormsWrongFalsely : Prop := numFormsRow.holds Tryz.pinned (OpenSpec.ofChange numFormsWrong)

/-- 'winnowlaw13.NumHolds': WHATEVER THE INPUT: true; the input reads as it did. -/
def numHoldsSpec : ChangeSpec := { name := "numHolds", fn := fun _ => fun
  | [d] => { results := [.lit (.bool true)], args := [d] }
  | _ => none }
def numHoldsRow : OpenClaim := { program := "ytgkbegmaffknbaagreat", sum := "e5ef72548f69fdd530af15eb28ccdc85fbbbbd9a1831182533292791ff3fea4b", func := "winnow/winnowlaw13.NumHolds", spec := "numHolds", inPlace := ["math/bits.Sub64", "math/bits.Add64"], unfollowed := true, recurses := true, named := ["math/bits.divideError", "math/bits.overflowError"], apart := false }
def NumHoldsSaid : Prop := numHoldsRow.holds Tryz.pinned (OpenSpec.ofChange numHoldsSpec)

/-- ITS FALSE NEIGHBOUR: 'it returns false'. Refute it at one input. -/
def numHoldsWrong : ChangeSpec := { name := "numHolds", fn := fun _ => fun
  | [d] => { results := [.lit (.bool false)], args := [d] }
  | _ => none }
def NumHoldsWrongFalsely : Prop := numHoldsRow.holds Tryz.pinned (OpenSpec.ofChange numHoldsWrong)

/-- 'winnowlaw13.NumRows': WHATEVER THE INPUT: true; the input reads as it did. -/
def numRowsSpec : ChangeSpec := { name := "numRows", fn := fun _ => fun
  | [d1, d2, d3] => { results := [.lit (.bool true)], args := [d1, d2, d3] }
  | _ => none }
def numRowsRow : OpenClaim := { program := "ytgkbegmaffknbaagreat", sum := "e5ef72548f69fdd530af15eb28ccdc85fbbbbd9a1831182533292791ff3fea4b", func := "winnow/winnowlaw13.NumRows", spec := "numRows", inPlace := ["math/bits.Sub64", "math/bits.Add64"], unfollowed := true, recurses := true, named := ["math/bits.divideError", "math/bits.overflowError"], apart := false }
def NumRowsSaid : Prop := numRowsRow.holds Tryz.pinned (OpenSpec.ofChange numRowsSpec)

/-- ITS FALSE NEIGHBOUR: 'it returns false'. Refute it at one input. -/
def numRowsWrong : ChangeSpec := { name := "numRows", fn := fun _ => fun
  | [d1, d2, d3] => { results := [.lit (.bool false)], args := [d1, d2, d3] }
  | _ => none }
def NumRowsWrongFalsely : Prop := numRowsRow.holds Tryz.pinned (OpenSpec.ofChange numRowsWrong)

/-- 'winnowlaw13.NumSets': WHATEVER THE INPUT: true; the input reads as it did. -/
def numSetsSpec : ChangeSpec := { name := "numSets", fn := fun _ => fun
  | [d1, d2, d3] => { results := [.lit (.bool true)], args := [d1, d2, d3] }
  | _ => none }
def numSetsRow : OpenClaim := { program := "ytgkbegmaffknbaagreat", sum := "e5ef72548f69fdd530af15eb28ccdc85fbbbbd9a1831182533292791ff3fea4b", func := "winnow/winnowlaw13.NumSets", spec := "numSets", inPlace := ["math/bits.Sub64", "math/bits.Add64"], unfollowed := true, recurses := true, named := ["math/bits.divideError", "math/bits.overflowError"], apart := false }
def NumSetsSaid : Prop := numSetsRow.holds Tryz.pinned (OpenSpec.ofChange numSetsSpec)

/-- ITS FALSE NEIGHBOUR: 'it returns false'. Refute it at one input. -/
def numSetsWrong : ChangeSpec := { name := "numSets", fn := fun _ => fun
  | [d1, d2, d3] => { results := [.lit (.bool false)], args := [d1, d2, d3] }
  | _ => none }
def NumSetsWrongFalsely : Prop := numSetsRow.holds Tryz.pinned (OpenSpec.ofChange numSetsWrong)

/-- 'winnowlaw13.NumOps': WHATEVER THE INPUT: true; the input reads as it did. -/
def numOpsSpec : ChangeSpec := { name := "numOps", fn := fun _ => fun
  | [d1, d2, d3, d4] => { results := [.lit (.bool true)], args := [d1, d2, d3, d4] }
  | _ => none }
def numOpsRow : OpenClaim := { program := "ytgkbegmaffknbaagreat", sum := "e5ef72548f69fdd530af15eb28ccdc85fbbbbd9a1831182533292791ff3fea4b", func := "winnow/winnowlaw13.NumOps", spec := "numOps", inPlace := ["math/bits.Sub64", "math/bits.Add64"], unfollowed := true, recurses := true, named := ["math/bits.divideError", "math/bits.overflowError"], apart := false }
def NumOpsSaid : Prop := numOpsRow.holds Tryz.pinned (OpenSpec.ofChange numOpsSpec)

/-- ITS FALSE NEIGHBOUR: 'it returns false'. Refute it at one input. -/
def numOpsWrong : ChangeSpec := { name := "numOps", fn := fun _ => fun
  | [d1, d2, d3, d4] => { results := [.lit (.bool false)], args := [d1, d2, d3, d4] }
  | _ => none }
def NumOpsWrongFalsely : Prop := numOpsRow.holds Tryz.pinned (OpenSpec.ofChange numOpsWrong)

/-- 'winnowlaw14.InvTurned': WHATEVER THE INPUT: true; the input reads as it did. -/
def invTurnedSpec : ChangeSpec := { name := "invTurned", fn := fun _ => fun
  | [d1, d2] => { results := [.lit (.bool true)], args := [d1, d2] }
  | _ => none }
def invTurnedRow : OpenClaim := { program := "ytgkbegmaffknbaagreat", sum := "e5ef72548f69fdd530af15eb28ccdc85fbbbbd9a1831182533292791ff3fea4b", func := "winnow/winnowlaw14.InvTurned", spec := "invTurned", inPlace := ["math/bits.Add64", "math/bits.Sub64"], unfollowed := true, recurses := true, named := ["math/bits.divideError", "math/bits.overflowError"], apart := false }
def InvTurnedSaid : Prop := invTurnedRow.holds Tryz.pinned (OpenSpec.ofChange invTurnedSpec)

/-- ITS FALSE NEIGHBOUR: 'it returns false'. Refute it at one input. -/
def invTurnedWrong : ChangeSpec := { name := "invTurned", fn := fun _ => fun
  | [d1, d2] => { results := [.lit (.bool false)], args := [d1, d2] }
  | _ => none }
def InvTurnedWrongFalsely : Prop := invTurnedRow.holds Tryz.pinned (OpenSpec.ofChange invTurnedWrong)

/- THE SECOND FORM. 'bulk': how many values and letters a reading holds, each counted each time it is reached (what is shared counts as often as it is met; a slice's spare places count too). A statement '..UptoSaid' is the law's where the arguments, and the package variables that the reading takes, are together of bulk at most 1048576: NARROWER than '..Said'. Prove '..Said' where nothing that the law and all that it calls make is longer than what came in: it says more and counts as full. Else prove '..UptoSaid'. A law counts once. -/
mutual
def uptoBulk {H : Type} : DataW H → Nat
  | .lit (.string bytes) => bytes.length + 1
  | .lit _ => 1
  | .nil => 1
  | .ptr d => uptoBulk d + 1
  | .slice elems spare => uptoBulkAll elems + uptoBulkAll spare + 1
  | .agg parts => uptoBulkAll parts + 1
  | .iface _ d => uptoBulk d + 1
  | .map entries => uptoBulkEntries entries + 1
  | .held _ => 1
def uptoBulkAll {H : Type} : List (DataW H) → Nat
  | [] => 0
  | d :: r => uptoBulk d + uptoBulkAll r
def uptoBulkEntries {H : Type} : List (Lit × DataW H) → Nat
  | [] => 0
  | x :: r => uptoBulkEntry x + uptoBulkEntries r
def uptoBulkEntry {H : Type} : Lit × DataW H → Nat
  | (.string bytes, d) => bytes.length + uptoBulk d + 1
  | (_, d) => uptoBulk d + 1
 end
def uptoSmall : (H : Type) → List (DataW H) → Bool := fun _ ds => decide (uptoBulkAll ds ≤ 1048576)
def OpenSpec.upto (s : _root_.Go.ChangeSpec) : _root_.Go.OpenSpec := { _root_.Go.OpenSpec.ofChange s with cond := some uptoSmall }

/-- 'winnowlaw13.NumForms', WHERE WHAT IT READS IS OF BULK AT MOST 1048576: true; the input reads as it did. -/
def numFormsUptoRow : OpenClaim := { program := "ytgkbegmaffknbaagreat", sum := "e5ef72548f69fdd530af15eb28ccdc85fbbbbd9a1831182533292791ff3fea4b", func := "winnow/winnowlaw13.NumForms", spec := "numForms", inPlace := ["math/bits.Sub64", "math/bits.Add64"], unfollowed := true, recurses := true, named := ["math/bits.divideError", "math/bits.overflowError"], apart := false, narrowed := true }
def NumFormsUptoSaid : Prop := numFormsUptoRow.holds Tryz.pinned (OpenSpec.upto numFormsSpec)

/-- 'winnowlaw13.NumHolds', WHERE WHAT IT READS IS OF BULK AT MOST 1048576: true; the input reads as it did. -/
def numHoldsUptoRow : OpenClaim := { program := "ytgkbegmaffknbaagreat", sum := "e5ef72548f69fdd530af15eb28ccdc85fbbbbd9a1831182533292791ff3fea4b", func := "winnow/winnowlaw13.NumHolds", spec := "numHolds", inPlace := ["math/bits.Sub64", "math/bits.Add64"], unfollowed := true, recurses := true, named := ["math/bits.divideError", "math/bits.overflowError"], apart := false, narrowed := true }
def NumHoldsUptoSaid : Prop := numHoldsUptoRow.holds Tryz.pinned (OpenSpec.upto numHoldsSpec)

/-- 'winnowlaw13.NumRows', WHERE WHAT IT READS IS OF BULK AT MOST 1048576: true; the input reads as it did. -/
def numRowsUptoRow : OpenClaim := { program := "ytgkbegmaffknbaagreat", sum := "e5ef72548f69fdd530af15eb28ccdc85fbbbbd9a1831182533292791ff3fea4b", func := "winnow/winnowlaw13.NumRows", spec := "numRows", inPlace := ["math/bits.Sub64", "math/bits.Add64"], unfollowed := true, recurses := true, named := ["math/bits.divideError", "math/bits.overflowError"], apart := false, narrowed := true }
def NumRowsUptoSaid : Prop := numRowsUptoRow.holds Tryz.pinned (OpenSpec.upto numRowsSpec)

/-- 'winnowlaw13.NumSets', WHERE WHAT IT READS IS OF BULK AT MOST 1048576: true; the input reads as it did. -/
def numSetsUptoRow : OpenClaim := { program := "ytgkbegmaffknbaagreat", sum := "e5ef72548f69fdd530af15eb28ccdc85fbbbbd9a1831182533292791ff3fea4b", func := "winnow/winnowlaw13.NumSets", spec := "numSets", inPlace := ["math/bits.Sub64", "math/bits.Add64"], unfollowed := true, recurses := true, named := ["math/bits.divideError", "math/bits.overflowError"], apart := false, narrowed := true }
def NumSetsUptoSaid : Prop := numSetsUptoRow.holds Tryz.pinned (OpenSpec.upto numSetsSpec)

/-- 'winnowlaw13.NumOps', WHERE WHAT IT READS IS OF BULK AT MOST 1048576: true; the input reads as it did. -/
def numOpsUptoRow : OpenClaim := { program := "ytgkbegmaffknbaagreat", sum := "e5ef72548f69fdd530af15eb28ccdc85fbbbbd9a1831182533292791ff3fea4b", func := "winnow/winnowlaw13.NumOps", spec := "numOps", inPlace := ["math/bits.Sub64", "math/bits.Add64"], unfollowed := true, recurses := true, named := ["math/bits.divideError", "math/bits.overflowError"], apart := false, narrowed := true }
def NumOpsUptoSaid : Prop := numOpsUptoRow.holds Tryz.pinned (OpenSpec.upto numOpsSpec)

/-- 'winnowlaw14.InvTurned', WHERE WHAT IT READS IS OF BULK AT MOST 1048576: true; the input reads as it did. -/
def invTurnedUptoRow : OpenClaim := { program := "ytgkbegmaffknbaagreat", sum := "e5ef72548f69fdd530af15eb28ccdc85fbbbbd9a1831182533292791ff3fea4b", func := "winnow/winnowlaw14.InvTurned", spec := "invTurned", inPlace := ["math/bits.Add64", "math/bits.Sub64"], unfollowed := true, recurses := true, named := ["math/bits.divideError", "math/bits.overflowError"], apart := false, narrowed := true }
def InvTurnedUptoSaid : Prop := invTurnedUptoRow.holds Tryz.pinned (OpenSpec.upto invTurnedSpec)

end Rows
end Go.Proofs.YtgkbegmaffknbaaGreat
