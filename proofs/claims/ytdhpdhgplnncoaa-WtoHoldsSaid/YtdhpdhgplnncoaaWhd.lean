import Derived.Test.YtdhpdhgplnncoaaWhb
import Derived.Test.YtdhpdhgplnncoaaWhgA
import Derived.Test.YtdhpdhgplnncoaaWhgB
set_option linter.unusedVariables false
set_option linter.unusedSimpArgs false
set_option linter.unnecessarySimpa false
/- WtoHolds: the law. -/
namespace Go.Proofs.Ytdhpdhgplnncoaa
open Go.RowKit
theorem hold_any {w : World} {n root : Int} {ro : Option Addr} {cap : Nat} {ars : List (Int × Int)} (hs : SAr w ro ars) (hao : ro = none → cap = 0) (hlc : ars.length ≤ cap) (hn : in64 n) (hr : in64 root) (hin : ∀ x ∈ ars, in64 x.1 ∧ in64 x.2) (hc : cap ≤ 140737488355328) :
    Calls Try.prog 5 #[.int .i64 n, .slice ro ars.length cap, .int .i64 root] w fun e w' => e = .returned (.bool true) ∧ Ok w w' := by
  have HST : Hid (SAr w ro (ars.take 200)) := hs.take 200
  have HIN : Hid (∀ x ∈ ars.take 200, in64 x.1 ∧ in64 x.2) := fun x hx => hin x (List.mem_of_mem_take hx)
  have HTL : Hid ((ars.take 200).length ≤ 200) := by unfold Hid; rw [List.length_take]; omega
  by_cases h200 : 200 < ars.length
  · cases hb : (badV n root || (ars.take 200).any (badA n)) with
    | true => exact hold_Abad HST hao hlc hn.1 hn.2 hr HIN HTL hc (by omega) (by unfold Hid; rw [List.length_take]; omega) (by omega) hb
    | false => exact hold_Agood HST hao hlc hn.1 hn.2 hr HIN HTL hc (by omega) (by unfold Hid; rw [List.length_take]; omega) (by omega) hb
  · cases hb : (badV n root || (ars.take 200).any (badA n)) with
    | true => exact hold_Bbad HST hao hlc hn.1 hn.2 hr HIN HTL hc (by omega) (by unfold Hid; rw [List.length_take]; omega) hb
    | false => exact hold_Bgood HST hao hlc hn.1 hn.2 hr HIN HTL hc (by omega) (by unfold Hid; rw [List.length_take]; omega) hb
end Go.Proofs.Ytdhpdhgplnncoaa
