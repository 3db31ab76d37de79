/-
  No cell of these rows narrows 'for every input' (looked for: loops, veiled, ifaces, maps, wideKeys, modest, calm, conditions, laid).
  DERIVED. THE GIVEN ROWS OF THIS SEAT. 4 by the template 'for every input the law returns true; each argument reads behind the call as it read before'; 0 by the template 'total and deterministic' (their statements: YtaocomjhepgabaaTotals.lean).
  GIVEN WITH THE SEED: the statements are not yours to turn. If you find one false, say at which input.
  Laid BY PROGRAM, IN A SANDBOX (cutbox-rows.mjs): the forced cells as the released guide's own fill.sh prints them over the translation b72384c44a5db1e4… (all of the seat's roots in one cut). By AI agents, Wed Nov 11 2026. No macro, syntax, notation, axiom, sorry.
-/
import Derived.Test.YtaocomjhepgabaaChecked
import GoSem.Claim
import GoSem.ClaimJoined
import GoSem.ClaimMapViews
import Derived.JoinedTies
import Derived.KernelRfl
namespace Go.Proofs.Ytaocomjhepgabaa
/- THE CELL 'sum', in the pinned program and in every row, IS THE sha256 OF THE DUMP (.gsa) THAT YtaocomjhepgabaaProg.lean LOADS. Nothing in Lean hashes anything: it is a label: what it is worth is what the hold of that sum in a sandbox is worth. -/
noncomputable def Try.pinned : Pinned := { name := "ytaocomjhepgabaa", sum := "b72384c44a5db1e492b525ffea2326d2aae2c1e25fcf8a975ff945ec31f5007f", checked := Try.checked }
namespace Rows
def none {H : Type} : Left H := { results := [], args := [] }

/-- 'winnowlaw10.WtoFar': WHATEVER THE INPUT: true; the input reads as it did. -/
def wtoFarSpec : ChangeSpec := { name := "wtoFar", fn := fun _ => fun
  | [d1, d2, d3, d4] => { results := [.lit (.bool true)], args := [d1, d2, d3, d4] }
  | _ => none }
def wtoFarRow : OpenClaim := { program := "ytaocomjhepgabaa", sum := "b72384c44a5db1e492b525ffea2326d2aae2c1e25fcf8a975ff945ec31f5007f", func := "winnow/winnowlaw10.WtoFar", spec := "wtoFar", unfollowed := true, recurses := true, apart := false }
def WtoFarSaid : Prop := wtoFarRow.holds Try.pinned (OpenSpec.ofChange wtoFarSpec)

/-- ITS FALSE NEIGHBOUR: 'it returns false'. Refute it at one input. -/
def wtoFarWrong : ChangeSpec := { name := "wtoFar", fn := fun _ => fun
  | [d1, d2, d3, d4] => { results := [.lit (.bool false)], args := [d1, d2, d3, d4] }
  | _ => none }
def WtoFarWrongFalsely : Prop := wtoFarRow.holds Try.pinned (OpenSpec.ofChange wtoFarWrong)

/-- 'winnowlaw10.WtoSettles': WHATEVER THE INPUT: true; the input reads as it did. -/
def wtoSettlesSpec : ChangeSpec := { name := "wtoSettles", fn := fun _ => fun
  | [d1, d2, d3, d4] => { results := [.lit (.bool true)], args := [d1, d2, d3, d4] }
  | _ => none }
def wtoSettlesRow : OpenClaim := { program := "ytaocomjhepgabaa", sum := "b72384c44a5db1e492b525ffea2326d2aae2c1e25fcf8a975ff945ec31f5007f", func := "winnow/winnowlaw10.WtoSettles", spec := "wtoSettles", unfollowed := true, recurses := true, apart := false }
def WtoSettlesSaid : Prop := wtoSettlesRow.holds Try.pinned (OpenSpec.ofChange wtoSettlesSpec)

/-- ITS FALSE NEIGHBOUR: 'it returns false'. Refute it at one input. -/
def wtoSettlesWrong : ChangeSpec := { name := "wtoSettles", fn := fun _ => fun
  | [d1, d2, d3, d4] => { results := [.lit (.bool false)], args := [d1, d2, d3, d4] }
  | _ => none }
def WtoSettlesWrongFalsely : Prop := wtoSettlesRow.holds Try.pinned (OpenSpec.ofChange wtoSettlesWrong)

/-- 'winnowlaw10.WtoHolds': WHATEVER THE INPUT: true; the input reads as it did. -/
def wtoHoldsSpec : ChangeSpec := { name := "wtoHolds", fn := fun _ => fun
  | [d1, d2, d3] => { results := [.lit (.bool true)], args := [d1, d2, d3] }
  | _ => none }
def wtoHoldsRow : OpenClaim := { program := "ytaocomjhepgabaa", sum := "b72384c44a5db1e492b525ffea2326d2aae2c1e25fcf8a975ff945ec31f5007f", func := "winnow/winnowlaw10.WtoHolds", spec := "wtoHolds", unfollowed := true, recurses := true, apart := false }
def WtoHoldsSaid : Prop := wtoHoldsRow.holds Try.pinned (OpenSpec.ofChange wtoHoldsSpec)

/-- ITS FALSE NEIGHBOUR: 'it returns false'. Refute it at one input. -/
def wtoHoldsWrong : ChangeSpec := { name := "wtoHolds", fn := fun _ => fun
  | [d1, d2, d3] => { results := [.lit (.bool false)], args := [d1, d2, d3] }
  | _ => none }
def WtoHoldsWrongFalsely : Prop := wtoHoldsRow.holds Try.pinned (OpenSpec.ofChange wtoHoldsWrong)

/-- 'winnowlaw10.WtoOrders': WHATEVER THE INPUT: true; the input reads as it did. -/
def wtoOrdersSpec : ChangeSpec := { name := "wtoOrders", fn := fun _ => fun
  | [d1, d2, d3, d4] => { results := [.lit (.bool true)], args := [d1, d2, d3, d4] }
  | _ => none }
def wtoOrdersRow : OpenClaim := { program := "ytaocomjhepgabaa", sum := "b72384c44a5db1e492b525ffea2326d2aae2c1e25fcf8a975ff945ec31f5007f", func := "winnow/winnowlaw10.WtoOrders", spec := "wtoOrders", unfollowed := true, recurses := true, apart := false }
def WtoOrdersSaid : Prop := wtoOrdersRow.holds Try.pinned (OpenSpec.ofChange wtoOrdersSpec)

/-- ITS FALSE NEIGHBOUR: 'it returns false'. Refute it at one input. -/
def wtoOrdersWrong : ChangeSpec := { name := "wtoOrders", fn := fun _ => fun
  | [d1, d2, d3, d4] => { results := [.lit (.bool false)], args := [d1, d2, d3, d4] }
  | _ => none }
def WtoOrdersWrongFalsely : Prop := wtoOrdersRow.holds Try.pinned (OpenSpec.ofChange wtoOrdersWrong)

/- THE SECOND FORM. 'bulk': how many values and letters a reading holds, each counted each time it is reached (what is shared counts as often as it is met; a slice's spare places count too). A statement '..UptoSaid' is the law's where the arguments, and the package variables that the reading takes, are together of bulk at most 1048576: NARROWER than '..Said'. Prove '..Said' where nothing that the law and all that it calls make is longer than what came in: it says more and counts as full. Else prove '..UptoSaid'. A law counts once. -/
mutual
def uptoBulk {H : Type} : DataW H → Nat
  | .lit (.string bytes) => bytes.length + 1
  | .lit _ => 1
  | .nil => 1
  | .ptr d => uptoBulk d + 1
  | .slice elems spare => uptoBulkAll elems + uptoBulkAll spare + 1
  | .agg parts => uptoBulkAll parts + 1
  | .iface _ d => uptoBulk d + 1
  | .map entries => uptoBulkEntries entries + 1
  | .held _ => 1
def uptoBulkAll {H : Type} : List (DataW H) → Nat
  | [] => 0
  | d :: r => uptoBulk d + uptoBulkAll r
def uptoBulkEntries {H : Type} : List (Lit × DataW H) → Nat
  | [] => 0
  | x :: r => uptoBulkEntry x + uptoBulkEntries r
def uptoBulkEntry {H : Type} : Lit × DataW H → Nat
  | (.string bytes, d) => bytes.length + uptoBulk d + 1
  | (_, d) => uptoBulk d + 1
 end
def uptoSmall : (H : Type) → List (DataW H) → Bool := fun _ ds => decide (uptoBulkAll ds ≤ 1048576)
def OpenSpec.upto (s : _root_.Go.ChangeSpec) : _root_.Go.OpenSpec := { _root_.Go.OpenSpec.ofChange s with cond := some uptoSmall }

/-- 'winnowlaw10.WtoFar', WHERE WHAT IT READS IS OF BULK AT MOST 1048576: true; the input reads as it did. -/
def wtoFarUptoRow : OpenClaim := { program := "ytaocomjhepgabaa", sum := "b72384c44a5db1e492b525ffea2326d2aae2c1e25fcf8a975ff945ec31f5007f", func := "winnow/winnowlaw10.WtoFar", spec := "wtoFar", unfollowed := true, recurses := true, apart := false, narrowed := true }
def WtoFarUptoSaid : Prop := wtoFarUptoRow.holds Try.pinned (OpenSpec.upto wtoFarSpec)

/-- 'winnowlaw10.WtoSettles', WHERE WHAT IT READS IS OF BULK AT MOST 1048576: true; the input reads as it did. -/
def wtoSettlesUptoRow : OpenClaim := { program := "ytaocomjhepgabaa", sum := "b72384c44a5db1e492b525ffea2326d2aae2c1e25fcf8a975ff945ec31f5007f", func := "winnow/winnowlaw10.WtoSettles", spec := "wtoSettles", unfollowed := true, recurses := true, apart := false, narrowed := true }
def WtoSettlesUptoSaid : Prop := wtoSettlesUptoRow.holds Try.pinned (OpenSpec.upto wtoSettlesSpec)

/-- 'winnowlaw10.WtoHolds', WHERE WHAT IT READS IS OF BULK AT MOST 1048576: true; the input reads as it did. -/
def wtoHoldsUptoRow : OpenClaim := { program := "ytaocomjhepgabaa", sum := "b72384c44a5db1e492b525ffea2326d2aae2c1e25fcf8a975ff945ec31f5007f", func := "winnow/winnowlaw10.WtoHolds", spec := "wtoHolds", unfollowed := true, recurses := true, apart := false, narrowed := true }
def WtoHoldsUptoSaid : Prop := wtoHoldsUptoRow.holds Try.pinned (OpenSpec.upto wtoHoldsSpec)

/-- 'winnowlaw10.WtoOrders', WHERE WHAT IT READS IS OF BULK AT MOST 1048576: true; the input reads as it did. -/
def wtoOrdersUptoRow : OpenClaim := { program := "ytaocomjhepgabaa", sum := "b72384c44a5db1e492b525ffea2326d2aae2c1e25fcf8a975ff945ec31f5007f", func := "winnow/winnowlaw10.WtoOrders", spec := "wtoOrders", unfollowed := true, recurses := true, apart := false, narrowed := true }
def WtoOrdersUptoSaid : Prop := wtoOrdersUptoRow.holds Try.pinned (OpenSpec.upto wtoOrdersSpec)

end Rows
end Go.Proofs.Ytaocomjhepgabaa
