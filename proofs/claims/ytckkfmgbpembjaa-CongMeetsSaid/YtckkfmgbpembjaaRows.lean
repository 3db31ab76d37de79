/-
  No cell of these rows narrows 'for every input' (looked for: loops, veiled, ifaces, maps, wideKeys, modest, calm, conditions, laid).
  DERIVED. THE GIVEN ROWS OF THIS SEAT. 5 by the template 'for every input the law returns true; each argument reads behind the call as it read before'; 0 by the template 'total and deterministic' (their statements: YtckkfmgbpembjaaTotals.lean).
  GIVEN WITH THE SEED: the statements are not yours to turn. If you find one false, say at which input.
  Laid BY PROGRAM, IN A SANDBOX (cutbox-rows.mjs): the forced cells as the released guide's own fill.sh prints them over the translation b530946519aecc0a… (all of the seat's roots in one cut). By AI agents, Wed Nov 11 2026. No macro, syntax, notation, axiom, sorry.
-/
import Derived.Test.YtckkfmgbpembjaaChecked
import GoSem.Claim
import GoSem.ClaimJoined
import GoSem.ClaimMapViews
import Derived.JoinedTies
import Derived.KernelRfl
namespace Go.Proofs.Ytckkfmgbpembjaa
/- THE CELL 'sum', in the pinned program and in every row, IS THE sha256 OF THE DUMP (.gsa) THAT YtckkfmgbpembjaaProg.lean LOADS. Nothing in Lean hashes anything: it is a label: what it is worth is what the hold of that sum in a sandbox is worth. -/
noncomputable def Try.pinned : Pinned := { name := "ytckkfmgbpembjaa", sum := "b530946519aecc0ab792595eb3eec3697a0b5b121d170fd62b29c48cac46b193", checked := Try.checked }
namespace Rows
def none {H : Type} : Left H := { results := [], args := [] }

/-- 'winnowlaw12.CongMeets': WHATEVER THE INPUT: true; the input reads as it did. -/
def congMeetsSpec : ChangeSpec := { name := "congMeets", fn := fun _ => fun
  | [d1, d2, d3, d4] => { results := [.lit (.bool true)], args := [d1, d2, d3, d4] }
  | _ => none }
def congMeetsRow : OpenClaim := { program := "ytckkfmgbpembjaa", sum := "b530946519aecc0ab792595eb3eec3697a0b5b121d170fd62b29c48cac46b193", func := "winnow/winnowlaw12.CongMeets", spec := "congMeets", inPlace := ["math/bits.Add64", "math/bits.Sub64"], unfollowed := true, recurses := true, named := ["math/bits.divideError", "math/bits.overflowError"], apart := false }
def CongMeetsSaid : Prop := congMeetsRow.holds Try.pinned (OpenSpec.ofChange congMeetsSpec)

/-- ITS FALSE NEIGHBOUR: 'it returns false'. Refute it at one input. -/
def congMeetsWrong : ChangeSpec := { name := "congMeets", fn := fun _ => fun
  | [d1, d2, d3, d4] => { results := [.lit (.bool false)], args := [d1, d2, d3, d4] }
  | _ => none }
def CongMeetsWrongFalsely : Prop := congMeetsRow.holds Try.pinned (OpenSpec.ofChange congMeetsWrong)

/-- 'winnowlaw12.CongSteps': WHATEVER THE INPUT: true; the input reads as it did. -/
def congStepsSpec : ChangeSpec := { name := "congSteps", fn := fun _ => fun
  | [d1, d2, d3] => { results := [.lit (.bool true)], args := [d1, d2, d3] }
  | _ => none }
def congStepsRow : OpenClaim := { program := "ytckkfmgbpembjaa", sum := "b530946519aecc0ab792595eb3eec3697a0b5b121d170fd62b29c48cac46b193", func := "winnow/winnowlaw12.CongSteps", spec := "congSteps", inPlace := ["math/bits.Add64", "math/bits.Sub64"], unfollowed := true, recurses := true, named := ["math/bits.divideError", "math/bits.overflowError"], apart := false }
def CongStepsSaid : Prop := congStepsRow.holds Try.pinned (OpenSpec.ofChange congStepsSpec)

/-- ITS FALSE NEIGHBOUR: 'it returns false'. Refute it at one input. -/
def congStepsWrong : ChangeSpec := { name := "congSteps", fn := fun _ => fun
  | [d1, d2, d3] => { results := [.lit (.bool false)], args := [d1, d2, d3] }
  | _ => none }
def CongStepsWrongFalsely : Prop := congStepsRow.holds Try.pinned (OpenSpec.ofChange congStepsWrong)

/-- 'winnowlaw12.CongHolds': WHATEVER THE INPUT: true; the input reads as it did. -/
def congHoldsSpec : ChangeSpec := { name := "congHolds", fn := fun _ => fun
  | [d] => { results := [.lit (.bool true)], args := [d] }
  | _ => none }
def congHoldsRow : OpenClaim := { program := "ytckkfmgbpembjaa", sum := "b530946519aecc0ab792595eb3eec3697a0b5b121d170fd62b29c48cac46b193", func := "winnow/winnowlaw12.CongHolds", spec := "congHolds", inPlace := ["math/bits.Add64", "math/bits.Sub64"], unfollowed := true, recurses := true, named := ["math/bits.divideError", "math/bits.overflowError"], apart := false }
def CongHoldsSaid : Prop := congHoldsRow.holds Try.pinned (OpenSpec.ofChange congHoldsSpec)

/-- ITS FALSE NEIGHBOUR: 'it returns false'. Refute it at one input. -/
def congHoldsWrong : ChangeSpec := { name := "congHolds", fn := fun _ => fun
  | [d] => { results := [.lit (.bool false)], args := [d] }
  | _ => none }
def CongHoldsWrongFalsely : Prop := congHoldsRow.holds Try.pinned (OpenSpec.ofChange congHoldsWrong)

/-- 'winnowlaw12.CongSets': WHATEVER THE INPUT: true; the input reads as it did. -/
def congSetsSpec : ChangeSpec := { name := "congSets", fn := fun _ => fun
  | [d1, d2, d3] => { results := [.lit (.bool true)], args := [d1, d2, d3] }
  | _ => none }
def congSetsRow : OpenClaim := { program := "ytckkfmgbpembjaa", sum := "b530946519aecc0ab792595eb3eec3697a0b5b121d170fd62b29c48cac46b193", func := "winnow/winnowlaw12.CongSets", spec := "congSets", inPlace := ["math/bits.Add64", "math/bits.Sub64"], unfollowed := true, recurses := true, named := ["math/bits.divideError", "math/bits.overflowError"], apart := false }
def CongSetsSaid : Prop := congSetsRow.holds Try.pinned (OpenSpec.ofChange congSetsSpec)

/-- ITS FALSE NEIGHBOUR: 'it returns false'. Refute it at one input. -/
def congSetsWrong : ChangeSpec := { name := "congSets", fn := fun _ => fun
  | [d1, d2, d3] => { results := [.lit (.bool false)], args := [d1, d2, d3] }
  | _ => none }
def CongSetsWrongFalsely : Prop := congSetsRow.holds Try.pinned (OpenSpec.ofChange congSetsWrong)

/-- 'winnowlaw12.CongOps': WHATEVER THE INPUT: true; the input reads as it did. -/
def congOpsSpec : ChangeSpec := { name := "congOps", fn := fun _ => fun
  | [d1, d2, d3] => { results := [.lit (.bool true)], args := [d1, d2, d3] }
  | _ => none }
def congOpsRow : OpenClaim := { program := "ytckkfmgbpembjaa", sum := "b530946519aecc0ab792595eb3eec3697a0b5b121d170fd62b29c48cac46b193", func := "winnow/winnowlaw12.CongOps", spec := "congOps", inPlace := ["math/bits.Add64", "math/bits.Sub64"], unfollowed := true, recurses := true, named := ["math/bits.divideError", "math/bits.overflowError"], apart := false }
def CongOpsSaid : Prop := congOpsRow.holds Try.pinned (OpenSpec.ofChange congOpsSpec)

/-- ITS FALSE NEIGHBOUR: 'it returns false'. Refute it at one input. -/
def congOpsWrong : ChangeSpec := { name := "congOps", fn := fun _ => fun
  | [d1, d2, d3] => { results := [.lit (.bool false)], args := [d1, d2, d3] }
  | _ => none }
def CongOpsWrongFalsely : Prop := congOpsRow.holds Try.pinned (OpenSpec.ofChange congOpsWrong)

/- THE SECOND FORM. 'bulk': how many values and letters a reading holds, each counted each time it is reached (what is shared counts as often as it is met; a slice's spare places count too). A statement '..UptoSaid' is the law's where the arguments, and the package variables that the reading takes, are together of bulk at most 1048576: NARROWER than '..Said'. Prove '..Said' where nothing that the law and all that it calls make is longer than what came in: it says more and counts as full. Else prove '..UptoSaid'. A law counts once. -/
mutual
def uptoBulk {H : Type} : DataW H → Nat
  | .lit (.string bytes) => bytes.length + 1
  | .lit _ => 1
  | .nil => 1
  | .ptr d => uptoBulk d + 1
  | .slice elems spare => uptoBulkAll elems + uptoBulkAll spare + 1
  | .agg parts => uptoBulkAll parts + 1
  | .iface _ d => uptoBulk d + 1
  | .map entries => uptoBulkEntries entries + 1
  | .held _ => 1
def uptoBulkAll {H : Type} : List (DataW H) → Nat
  | [] => 0
  | d :: r => uptoBulk d + uptoBulkAll r
def uptoBulkEntries {H : Type} : List (Lit × DataW H) → Nat
  | [] => 0
  | x :: r => uptoBulkEntry x + uptoBulkEntries r
def uptoBulkEntry {H : Type} : Lit × DataW H → Nat
  | (.string bytes, d) => bytes.length + uptoBulk d + 1
  | (_, d) => uptoBulk d + 1
 end
def uptoSmall : (H : Type) → List (DataW H) → Bool := fun _ ds => decide (uptoBulkAll ds ≤ 1048576)
def OpenSpec.upto (s : _root_.Go.ChangeSpec) : _root_.Go.OpenSpec := { _root_.Go.OpenSpec.ofChange s with cond := some uptoSmall }

/-- 'winnowlaw12.CongMeets', WHERE WHAT IT READS IS OF BULK AT MOST 1048576: true; the input reads as it did. -/
def congMeetsUptoRow : OpenClaim := { program := "ytckkfmgbpembjaa", sum := "b530946519aecc0ab792595eb3eec3697a0b5b121d170fd62b29c48cac46b193", func := "winnow/winnowlaw12.CongMeets", spec := "congMeets", inPlace := ["math/bits.Add64", "math/bits.Sub64"], unfollowed := true, recurses := true, named := ["math/bits.divideError", "math/bits.overflowError"], apart := false, narrowed := true }
def CongMeetsUptoSaid : Prop := congMeetsUptoRow.holds Try.pinned (OpenSpec.upto congMeetsSpec)

/-- 'winnowlaw12.CongSteps', WHERE WHAT IT READS IS OF BULK AT MOST 1048576: true; the input reads as it did. -/
def congStepsUptoRow : OpenClaim := { program := "ytckkfmgbpembjaa", sum := "b530946519aecc0ab792595eb3eec3697a0b5b121d170fd62b29c48cac46b193", func := "winnow/winnowlaw12.CongSteps", spec := "congSteps", inPlace := ["math/bits.Add64", "math/bits.Sub64"], unfollowed := true, recurses := true, named := ["math/bits.divideError", "math/bits.overflowError"], apart := false, narrowed := true }
def CongStepsUptoSaid : Prop := congStepsUptoRow.holds Try.pinned (OpenSpec.upto congStepsSpec)

/-- 'winnowlaw12.CongHolds', WHERE WHAT IT READS IS OF BULK AT MOST 1048576: true; the input reads as it did. -/
def congHoldsUptoRow : OpenClaim := { program := "ytckkfmgbpembjaa", sum := "b530946519aecc0ab792595eb3eec3697a0b5b121d170fd62b29c48cac46b193", func := "winnow/winnowlaw12.CongHolds", spec := "congHolds", inPlace := ["math/bits.Add64", "math/bits.Sub64"], unfollowed := true, recurses := true, named := ["math/bits.divideError", "math/bits.overflowError"], apart := false, narrowed := true }
def CongHoldsUptoSaid : Prop := congHoldsUptoRow.holds Try.pinned (OpenSpec.upto congHoldsSpec)

/-- 'winnowlaw12.CongSets', WHERE WHAT IT READS IS OF BULK AT MOST 1048576: true; the input reads as it did. -/
def congSetsUptoRow : OpenClaim := { program := "ytckkfmgbpembjaa", sum := "b530946519aecc0ab792595eb3eec3697a0b5b121d170fd62b29c48cac46b193", func := "winnow/winnowlaw12.CongSets", spec := "congSets", inPlace := ["math/bits.Add64", "math/bits.Sub64"], unfollowed := true, recurses := true, named := ["math/bits.divideError", "math/bits.overflowError"], apart := false, narrowed := true }
def CongSetsUptoSaid : Prop := congSetsUptoRow.holds Try.pinned (OpenSpec.upto congSetsSpec)

/-- 'winnowlaw12.CongOps', WHERE WHAT IT READS IS OF BULK AT MOST 1048576: true; the input reads as it did. -/
def congOpsUptoRow : OpenClaim := { program := "ytckkfmgbpembjaa", sum := "b530946519aecc0ab792595eb3eec3697a0b5b121d170fd62b29c48cac46b193", func := "winnow/winnowlaw12.CongOps", spec := "congOps", inPlace := ["math/bits.Add64", "math/bits.Sub64"], unfollowed := true, recurses := true, named := ["math/bits.divideError", "math/bits.overflowError"], apart := false, narrowed := true }
def CongOpsUptoSaid : Prop := congOpsUptoRow.holds Try.pinned (OpenSpec.upto congOpsSpec)

end Rows
end Go.Proofs.Ytckkfmgbpembjaa
