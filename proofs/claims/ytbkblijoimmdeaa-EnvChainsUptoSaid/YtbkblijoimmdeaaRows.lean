/-
  No cell of these rows narrows 'for every input' (looked for: loops, veiled, ifaces, maps, wideKeys, modest, calm, conditions, laid).
  DERIVED. THE GIVEN ROWS OF THIS SEAT. 3 by the template 'for every input the law returns true; each argument reads behind the call as it read before'; 0 by the template 'total and deterministic' (their statements: YtbkblijoimmdeaaTotals.lean).
  GIVEN WITH THE SEED: the statements are not yours to turn. If you find one false, say at which input.
  Laid BY PROGRAM, IN A SANDBOX (cutbox-rows.mjs): the forced cells as the released guide's own fill.sh prints them over the translation bcd6b30dd5d012af… (all of the seat's roots in one cut). By AI agents, Wed Nov 11 2026. No macro, syntax, notation, axiom, sorry.
-/
import Derived.Test.YtbkblijoimmdeaaChecked
import GoSem.Claim
import GoSem.ClaimJoined
import GoSem.ClaimMapViews
import Derived.JoinedTies
import Derived.KernelRfl
namespace Go.Proofs.Ytbkblijoimmdeaa
/- THE CELL 'sum', in the pinned program and in every row, IS THE sha256 OF THE DUMP (.gsa) THAT YtbkblijoimmdeaaProg.lean LOADS. Nothing in Lean hashes anything: it is a label: what it is worth is what the hold of that sum in a sandbox is worth. -/
noncomputable def Try.pinned : Pinned := { name := "ytbkblijoimmdeaa", sum := "bcd6b30dd5d012afa80406bca7886fc7e363d2fb68c10a055e70c759a99aa25b", checked := Try.checked }
namespace Rows
def none {H : Type} : Left H := { results := [], args := [] }

/-- 'winnowlaw15.EnvMembers': WHATEVER THE INPUT: true; the input reads as it did. -/
def envMembersSpec : ChangeSpec := { name := "envMembers", fn := fun _ => fun
  | [d1, d2, d3, d4] => { results := [.lit (.bool true)], args := [d1, d2, d3, d4] }
  | _ => none }
def envMembersRow : OpenClaim := { program := "ytbkblijoimmdeaa", sum := "bcd6b30dd5d012afa80406bca7886fc7e363d2fb68c10a055e70c759a99aa25b", func := "winnow/winnowlaw15.EnvMembers", spec := "envMembers", inPlace := ["math/bits.Add64", "math/bits.Sub64"], unfollowed := true, recurses := true, named := ["math/bits.divideError", "math/bits.overflowError"], apart := false }
def EnvMembersSaid : Prop := envMembersRow.holds Try.pinned (OpenSpec.ofChange envMembersSpec)

/-- ITS FALSE NEIGHBOUR: 'it returns false'. Refute it at one input. -/
def envMembersWrong : ChangeSpec := { name := "envMembers", fn := fun _ => fun
  | [d1, d2, d3, d4] => { results := [.lit (.bool false)], args := [d1, d2, d3, d4] }
  | _ => none }
def EnvMembersWrongFalsely : Prop := envMembersRow.holds Try.pinned (OpenSpec.ofChange envMembersWrong)

/-- 'winnowlaw15.EnvOrders': WHATEVER THE INPUT: true; the input reads as it did. -/
def envOrdersSpec : ChangeSpec := { name := "envOrders", fn := fun _ => fun
  | [d1, d2, d3, d4] => { results := [.lit (.bool true)], args := [d1, d2, d3, d4] }
  | _ => none }
def envOrdersRow : OpenClaim := { program := "ytbkblijoimmdeaa", sum := "bcd6b30dd5d012afa80406bca7886fc7e363d2fb68c10a055e70c759a99aa25b", func := "winnow/winnowlaw15.EnvOrders", spec := "envOrders", inPlace := ["math/bits.Add64", "math/bits.Sub64"], unfollowed := true, recurses := true, named := ["math/bits.divideError", "math/bits.overflowError"], apart := false }
def EnvOrdersSaid : Prop := envOrdersRow.holds Try.pinned (OpenSpec.ofChange envOrdersSpec)

/-- ITS FALSE NEIGHBOUR: 'it returns false'. Refute it at one input. -/
def envOrdersWrong : ChangeSpec := { name := "envOrders", fn := fun _ => fun
  | [d1, d2, d3, d4] => { results := [.lit (.bool false)], args := [d1, d2, d3, d4] }
  | _ => none }
def EnvOrdersWrongFalsely : Prop := envOrdersRow.holds Try.pinned (OpenSpec.ofChange envOrdersWrong)

/-- 'winnowlaw15.EnvChains': WHATEVER THE INPUT: true; the input reads as it did. -/
def envChainsSpec : ChangeSpec := { name := "envChains", fn := fun _ => fun
  | [d1, d2, d3] => { results := [.lit (.bool true)], args := [d1, d2, d3] }
  | _ => none }
def envChainsRow : OpenClaim := { program := "ytbkblijoimmdeaa", sum := "bcd6b30dd5d012afa80406bca7886fc7e363d2fb68c10a055e70c759a99aa25b", func := "winnow/winnowlaw15.EnvChains", spec := "envChains", inPlace := ["math/bits.Add64", "math/bits.Sub64"], unfollowed := true, recurses := true, named := ["math/bits.divideError", "math/bits.overflowError"], apart := false }
def EnvChainsSaid : Prop := envChainsRow.holds Try.pinned (OpenSpec.ofChange envChainsSpec)

/-- ITS FALSE NEIGHBOUR: 'it returns false'. Refute it at one input. -/
def envChainsWrong : ChangeSpec := { name := "envChains", fn := fun _ => fun
  | [d1, d2, d3] => { results := [.lit (.bool false)], args := [d1, d2, d3] }
  | _ => none }
def EnvChainsWrongFalsely : Prop := envChainsRow.holds Try.pinned (OpenSpec.ofChange envChainsWrong)

/- THE SECOND FORM. 'bulk': how many values and letters a reading holds, each counted each time it is reached (what is shared counts as often as it is met; a slice's spare places count too). A statement '..UptoSaid' is the law's where the arguments, and the package variables that the reading takes, are together of bulk at most 1048576: NARROWER than '..Said'. Prove '..Said' where nothing that the law and all that it calls make is longer than what came in: it says more and counts as full. Else prove '..UptoSaid'. A law counts once. -/
mutual
def uptoBulk {H : Type} : DataW H → Nat
  | .lit (.string bytes) => bytes.length + 1
  | .lit _ => 1
  | .nil => 1
  | .ptr d => uptoBulk d + 1
  | .slice elems spare => uptoBulkAll elems + uptoBulkAll spare + 1
  | .agg parts => uptoBulkAll parts + 1
  | .iface _ d => uptoBulk d + 1
  | .map entries => uptoBulkEntries entries + 1
  | .held _ => 1
def uptoBulkAll {H : Type} : List (DataW H) → Nat
  | [] => 0
  | d :: r => uptoBulk d + uptoBulkAll r
def uptoBulkEntries {H : Type} : List (Lit × DataW H) → Nat
  | [] => 0
  | x :: r => uptoBulkEntry x + uptoBulkEntries r
def uptoBulkEntry {H : Type} : Lit × DataW H → Nat
  | (.string bytes, d) => bytes.length + uptoBulk d + 1
  | (_, d) => uptoBulk d + 1
 end
def uptoSmall : (H : Type) → List (DataW H) → Bool := fun _ ds => decide (uptoBulkAll ds ≤ 1048576)
def OpenSpec.upto (s : _root_.Go.ChangeSpec) : _root_.Go.OpenSpec := { _root_.Go.OpenSpec.ofChange s with cond := some uptoSmall }

/-- 'winnowlaw15.EnvMembers', WHERE WHAT IT READS IS OF BULK AT MOST 1048576: true; the input reads as it did. -/
def envMembersUptoRow : OpenClaim := { program := "ytbkblijoimmdeaa", sum := "bcd6b30dd5d012afa80406bca7886fc7e363d2fb68c10a055e70c759a99aa25b", func := "winnow/winnowlaw15.EnvMembers", spec := "envMembers", inPlace := ["math/bits.Add64", "math/bits.Sub64"], unfollowed := true, recurses := true, named := ["math/bits.divideError", "math/bits.overflowError"], apart := false, narrowed := true }
def EnvMembersUptoSaid : Prop := envMembersUptoRow.holds Try.pinned (OpenSpec.upto envMembersSpec)

/-- 'winnowlaw15.EnvOrders', WHERE WHAT IT READS IS OF BULK AT MOST 1048576: true; the input reads as it did. -/
def envOrdersUptoRow : OpenClaim := { program := "ytbkblijoimmdeaa", sum := "bcd6b30dd5d012afa80406bca7886fc7e363d2fb68c10a055e70c759a99aa25b", func := "winnow/winnowlaw15.EnvOrders", spec := "envOrders", inPlace := ["math/bits.Add64", "math/bits.Sub64"], unfollowed := true, recurses := true, named := ["math/bits.divideError", "math/bits.overflowError"], apart := false, narrowed := true }
def EnvOrdersUptoSaid : Prop := envOrdersUptoRow.holds Try.pinned (OpenSpec.upto envOrdersSpec)

/-- 'winnowlaw15.EnvChains', WHERE WHAT IT READS IS OF BULK AT MOST 1048576: true; the input reads as it did. -/
def envChainsUptoRow : OpenClaim := { program := "ytbkblijoimmdeaa", sum := "bcd6b30dd5d012afa80406bca7886fc7e363d2fb68c10a055e70c759a99aa25b", func := "winnow/winnowlaw15.EnvChains", spec := "envChains", inPlace := ["math/bits.Add64", "math/bits.Sub64"], unfollowed := true, recurses := true, named := ["math/bits.divideError", "math/bits.overflowError"], apart := false, narrowed := true }
def EnvChainsUptoSaid : Prop := envChainsUptoRow.holds Try.pinned (OpenSpec.upto envChainsSpec)

end Rows
end Go.Proofs.Ytbkblijoimmdeaa
