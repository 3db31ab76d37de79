/-
  NARROWER THAN 'FOR EVERY INPUT', by the rows' own cells (each row's printed sentence says how): CfgBehind: laid.
  DERIVED. THE GIVEN ROWS OF THIS SEAT. 1 by the template 'for every input the law returns true; each argument reads behind the call as it read before'; 0 by the template 'total and deterministic' (their statements: YtklkpaekdpaloaaDoorTotals.lean).
  GIVEN WITH THE SEED: the statements are not yours to turn. If you find one false, say at which input.
  Laid BY PROGRAM, IN A SANDBOX (cutbox-rows.mjs): the forced cells as the released guide's own fill.sh prints them over the translation 573fd795919d4129… (all of the seat's roots in one cut). By AI agents, Wed Nov 11 2026. No macro, syntax, notation, axiom, sorry.
-/
import Derived.Test.YtklkpaekdpaloaaDoorChecked
import GoSem.Claim
import GoSem.ClaimJoined
import GoSem.ClaimMapViews
import Derived.JoinedTies
import Derived.KernelRfl
namespace Go.Proofs.YtklkpaekdpaloaaDoor
/- THE CELL 'sum', in the pinned program and in every row, IS THE sha256 OF THE DUMP (.gsa) THAT YtklkpaekdpaloaaDoorProg.lean LOADS. Nothing in Lean hashes anything: it is a label: what it is worth is what the hold of that sum in a sandbox is worth. -/
noncomputable def Tryd.pinned : Pinned := { name := "ytklkpaekdpaloaadoor", sum := "573fd795919d4129dc816646c831e201affbff5252fba77e6b6aa01001673aee", checked := Tryd.checked }
namespace Rows
def none {H : Type} : Left H := { results := [], args := [] }

/- WHAT THE LISTED PACKAGE-LEVEL VARIABLES READ AS WHEN THE CALL BEGINS. Each datum BY PROGRAM (the guide's laid-datum.mjs) off the statement by which the dump's own 'gosem.cut.vars' lays the variable. In a bare row this is a premise. The card (YtklkpaekdpaloaaDoorCards.lean) ties it to the program's text. -/
def laid_winnow_api_ErrReject {H : Type} : DataW H := .iface "*errors.errorString" (.ptr (.agg [.lit (.string [116, 104, 101, 32, 112, 114, 111, 103, 114, 97, 109, 32, 105, 115, 32, 114, 101, 102, 117, 115, 101, 100])]))
def laid_winnow_parse_rules {H : Type} : DataW H := .agg [.agg [.lit (.int .u8 1), .lit (.bool true), .lit (.int .i64 0), .agg [.lit (.int .i64 0), .lit (.int .i64 0)], .agg [.lit (.int .u8 0), .lit (.int .u8 0), .lit (.int .u8 0)], .lit (.int .u8 0)], .agg [.lit (.int .u8 1), .lit (.bool true), .lit (.int .i64 9223372036854775807), .agg [.lit (.int .i64 0), .lit (.int .i64 0)], .agg [.lit (.int .u8 0), .lit (.int .u8 0), .lit (.int .u8 0)], .lit (.int .u8 0)], .agg [.lit (.int .u8 2), .lit (.bool true), .lit (.int .i64 0), .agg [.lit (.int .i64 0), .lit (.int .i64 0)], .agg [.lit (.int .u8 4), .lit (.int .u8 0), .lit (.int .u8 0)], .lit (.int .u8 1)], .agg [.lit (.int .u8 2), .lit (.bool true), .lit (.int .i64 0), .agg [.lit (.int .i64 0), .lit (.int .i64 0)], .agg [.lit (.int .u8 4), .lit (.int .u8 4), .lit (.int .u8 0)], .lit (.int .u8 2)], .agg [.lit (.int .u8 2), .lit (.bool true), .lit (.int .i64 0), .agg [.lit (.int .i64 0), .lit (.int .i64 0)], .agg [.lit (.int .u8 0), .lit (.int .u8 0), .lit (.int .u8 0)], .lit (.int .u8 0)], .agg [.lit (.int .u8 2), .lit (.bool false), .lit (.int .i64 0), .agg [.lit (.int .i64 0), .lit (.int .i64 0)], .agg [.lit (.int .u8 4), .lit (.int .u8 0), .lit (.int .u8 0)], .lit (.int .u8 1)], .agg [.lit (.int .u8 2), .lit (.bool false), .lit (.int .i64 0), .agg [.lit (.int .i64 0), .lit (.int .i64 0)], .agg [.lit (.int .u8 0), .lit (.int .u8 0), .lit (.int .u8 0)], .lit (.int .u8 0)], .agg [.lit (.int .u8 2), .lit (.bool false), .lit (.int .i64 0), .agg [.lit (.int .i64 0), .lit (.int .i64 0)], .agg [.lit (.int .u8 4), .lit (.int .u8 3), .lit (.int .u8 3)], .lit (.int .u8 2)], .agg [.lit (.int .u8 2), .lit (.bool false), .lit (.int .i64 0), .agg [.lit (.int .i64 0), .lit (.int .i64 0)], .agg [.lit (.int .u8 4), .lit (.int .u8 3), .lit (.int .u8 0)], .lit (.int .u8 2)], .agg [.lit (.int .u8 3), .lit (.bool false), .lit (.int .i64 0), .agg [.lit (.int .i64 0), .lit (.int .i64 0)], .agg [.lit (.int .u8 0), .lit (.int .u8 0), .lit (.int .u8 0)], .lit (.int .u8 0)], .agg [.lit (.int .u8 4), .lit (.bool false), .lit (.int .i64 9223372036854775807), .agg [.lit (.int .i64 0), .lit (.int .i64 0)], .agg [.lit (.int .u8 0), .lit (.int .u8 0), .lit (.int .u8 0)], .lit (.int .u8 0)], .agg [.lit (.int .u8 4), .lit (.bool false), .lit (.int .i64 1), .agg [.lit (.int .i64 0), .lit (.int .i64 0)], .agg [.lit (.int .u8 0), .lit (.int .u8 0), .lit (.int .u8 0)], .lit (.int .u8 0)], .agg [.lit (.int .u8 4), .lit (.bool true), .lit (.int .i64 0), .agg [.lit (.int .i64 0), .lit (.int .i64 0)], .agg [.lit (.int .u8 0), .lit (.int .u8 0), .lit (.int .u8 0)], .lit (.int .u8 0)], .agg [.lit (.int .u8 4), .lit (.bool true), .lit (.int .i64 0), .agg [.lit (.int .i64 0), .lit (.int .i64 0)], .agg [.lit (.int .u8 4), .lit (.int .u8 0), .lit (.int .u8 0)], .lit (.int .u8 1)], .agg [.lit (.int .u8 4), .lit (.bool false), .lit (.int .i64 0), .agg [.lit (.int .i64 1), .lit (.int .i64 2)], .agg [.lit (.int .u8 4), .lit (.int .u8 0), .lit (.int .u8 0)], .lit (.int .u8 1)], .agg [.lit (.int .u8 4), .lit (.bool false), .lit (.int .i64 0), .agg [.lit (.int .i64 3), .lit (.int .i64 15)], .agg [.lit (.int .u8 4), .lit (.int .u8 4), .lit (.int .u8 0)], .lit (.int .u8 2)]]
def laid_winnow_cfg_steps {H : Type} : DataW H := .agg [.agg [.lit (.bool false), .lit (.int .i64 0)], .agg [.lit (.bool false), .lit (.int .i64 0)], .agg [.lit (.bool true), .lit (.int .i64 0)], .agg [.lit (.bool true), .lit (.int .i64 1)], .agg [.lit (.bool true), .lit (.int .i64 2)], .agg [.lit (.bool true), .lit (.int .i64 3)], .agg [.lit (.bool true), .lit (.int .i64 4)], .agg [.lit (.bool true), .lit (.int .i64 5)], .agg [.lit (.bool true), .lit (.int .i64 5)], .agg [.lit (.bool false), .lit (.int .i64 0)], .agg [.lit (.bool false), .lit (.int .i64 0)], .agg [.lit (.bool false), .lit (.int .i64 0)], .agg [.lit (.bool false), .lit (.int .i64 0)], .agg [.lit (.bool false), .lit (.int .i64 0)], .agg [.lit (.bool false), .lit (.int .i64 0)], .agg [.lit (.bool false), .lit (.int .i64 0)]]

/-- 'winnowlaw08.CfgBehind': WHATEVER THE INPUT: true; the input reads as it did. -/
def cfgBehindSpec : ChangeSpec := { name := "cfgBehind", fn := fun _ => fun
  | [d] => { results := [.lit (.bool true)], args := [d] }
  | _ => none }
def cfgBehindRow : OpenClaim := { program := "ytklkpaekdpaloaadoor", sum := "573fd795919d4129dc816646c831e201affbff5252fba77e6b6aa01001673aee", func := "winnow/winnowlaw08.CfgBehind", spec := "cfgBehind", unfollowed := true, recurses := true, named := ["winnow/parse.rules", "winnow/api.ErrReject", "winnow/cfg.steps"], apart := false, laid := [("winnow/api.ErrReject", laid_winnow_api_ErrReject), ("winnow/parse.rules", laid_winnow_parse_rules), ("winnow/cfg.steps", laid_winnow_cfg_steps)] }
def CfgBehindSaid : Prop := cfgBehindRow.holds Tryd.pinned (OpenSpec.ofChange cfgBehindSpec)

/-- ITS FALSE NEIGHBOUR: 'it returns false'. Refute it at one input. -/
def cfgBehindWrong : ChangeSpec := { name := "cfgBehind", fn := fun _ => fun
  | [d] => { results := [.lit (.bool false)], args := [d] }
  | _ => none }
def CfgBehindWrongFalsely : Prop := cfgBehindRow.holds Tryd.pinned (OpenSpec.ofChange cfgBehindWrong)

/- THE SECOND FORM. 'bulk': how many values and letters a reading holds, each counted each time it is reached (what is shared counts as often as it is met; a slice's spare places count too). A statement '..UptoSaid' is the law's where the arguments, and the package variables that the reading takes, are together of bulk at most 1048576: NARROWER than '..Said'. Prove '..Said' where nothing that the law and all that it calls make is longer than what came in: it says more and counts as full. Else prove '..UptoSaid'. A law counts once. -/
mutual
def uptoBulk {H : Type} : DataW H → Nat
  | .lit (.string bytes) => bytes.length + 1
  | .lit _ => 1
  | .nil => 1
  | .ptr d => uptoBulk d + 1
  | .slice elems spare => uptoBulkAll elems + uptoBulkAll spare + 1
  | .agg parts => uptoBulkAll parts + 1
  | .iface _ d => uptoBulk d + 1
  | .map entries => uptoBulkEntries entries + 1
  | .held _ => 1
def uptoBulkAll {H : Type} : List (DataW H) → Nat
  | [] => 0
  | d :: r => uptoBulk d + uptoBulkAll r
def uptoBulkEntries {H : Type} : List (Lit × DataW H) → Nat
  | [] => 0
  | x :: r => uptoBulkEntry x + uptoBulkEntries r
def uptoBulkEntry {H : Type} : Lit × DataW H → Nat
  | (.string bytes, d) => bytes.length + uptoBulk d + 1
  | (_, d) => uptoBulk d + 1
 end
def uptoSmall : (H : Type) → List (DataW H) → Bool := fun _ ds => decide (uptoBulkAll ds ≤ 1048576)
def OpenSpec.upto (s : _root_.Go.ChangeSpec) : _root_.Go.OpenSpec := { _root_.Go.OpenSpec.ofChange s with cond := some uptoSmall }

/-- 'winnowlaw08.CfgBehind', WHERE WHAT IT READS IS OF BULK AT MOST 1048576: true; the input reads as it did. -/
def cfgBehindUptoRow : OpenClaim := { program := "ytklkpaekdpaloaadoor", sum := "573fd795919d4129dc816646c831e201affbff5252fba77e6b6aa01001673aee", func := "winnow/winnowlaw08.CfgBehind", spec := "cfgBehind", unfollowed := true, recurses := true, named := ["winnow/parse.rules", "winnow/api.ErrReject", "winnow/cfg.steps"], apart := false, laid := [("winnow/api.ErrReject", laid_winnow_api_ErrReject), ("winnow/parse.rules", laid_winnow_parse_rules), ("winnow/cfg.steps", laid_winnow_cfg_steps)], narrowed := true }
def CfgBehindUptoSaid : Prop := cfgBehindUptoRow.holds Tryd.pinned (OpenSpec.upto cfgBehindSpec)

end Rows
end Go.Proofs.YtklkpaekdpaloaaDoor
