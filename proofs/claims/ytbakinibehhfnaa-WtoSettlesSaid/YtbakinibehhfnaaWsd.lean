import Derived.Test.YtbakinibehhfnaaWsx
import Derived.Test.YtbakinibehhfnaaWsA
import Derived.Test.YtbakinibehhfnaaWsB
set_option linter.unusedVariables false
set_option linter.unusedSimpArgs false
set_option linter.unnecessarySimpa false
/- WtoSettles: the law. -/
namespace Go.Proofs.Ytbakinibehhfnaa
open Go.RowKit
theorem set_any {w : World} {n root : Int} {ro mo : Option Addr} {cap mcap : Nat} {ars : List (Int × Int)} {ms : List Int} (hs : SAr w ro ars) (hao : ro = none → cap = 0) (hlc : ars.length ≤ cap) (hms : SIn w mo ms) (hmi : ∀ x ∈ ms, in64 x) (hr : in64 root) (hin : ∀ x ∈ ars, in64 x.1 ∧ in64 x.2) (hc : cap ≤ 140737488355328) :
    Calls Try.prog 4 #[.int .i64 n, .slice ro ars.length cap, .int .i64 root, .slice mo ms.length mcap] w fun e w' => e = .returned (.bool true) ∧ Ok w w' := by
  have HST : Hid (SAr w ro (ars.take 120)) := hs.take 120
  have HIN : Hid (∀ x ∈ ars.take 120, in64 x.1 ∧ in64 x.2) := fun x hx => hin x (List.mem_of_mem_take hx)
  have HTL : Hid ((ars.take 120).length ≤ 120) := by unfold Hid; rw [List.length_take]; omega
  by_cases h120 : 120 < ars.length
  · cases hb : (badV n root || (ars.take 120).any (badA n)) with
    | true => exact set_Abad HST hao hlc hms hmi hr HIN HTL hc (by omega) (by unfold Hid; rw [List.length_take]; omega) (by omega) hb
    | false => exact set_Agood HST hao hlc hms hmi hr HIN HTL hc (by omega) (by unfold Hid; rw [List.length_take]; omega) (by omega) hb
  · cases hb : (badV n root || (ars.take 120).any (badA n)) with
    | true => exact set_Bbad HST hao hlc hms hmi hr HIN HTL hc (by omega) (by unfold Hid; rw [List.length_take]; omega) hb
    | false => exact set_Bgood HST hao hlc hms hmi hr HIN HTL hc (by omega) (by unfold Hid; rw [List.length_take]; omega) hb
end Go.Proofs.Ytbakinibehhfnaa
