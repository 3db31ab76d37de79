import Derived.Test.YtegolobjeahhjaaWfAbad
import Derived.Test.YtegolobjeahhjaaWfAbig
import Derived.Test.YtegolobjeahhjaaWfAneg
import Derived.Test.YtegolobjeahhjaaWfApos
import Derived.Test.YtegolobjeahhjaaWfBbad
import Derived.Test.YtegolobjeahhjaaWfBbig
import Derived.Test.YtegolobjeahhjaaWfBneg
import Derived.Test.YtegolobjeahhjaaWfBpos
set_option linter.unusedVariables false
set_option linter.unusedSimpArgs false
set_option linter.unnecessarySimpa false
/- WtoFar: the law. -/
namespace Go.Proofs.Ytegolobjeahhjaa
open Go.RowKit
theorem far_any {w : World} {n root more : Int} {ro : Option Addr} {cap : Nat} {ars : List (Int × Int)} (hs : SAr w ro ars) (hao : ro = none → cap = 0) (hlc : ars.length ≤ cap) (hn : in64 n) (hr : in64 root) (hm : in64 more) (hin : ∀ x ∈ ars, in64 x.1 ∧ in64 x.2) (hc : cap ≤ 140737488355328) :
    Calls Try.prog 3 #[.int .i64 n, .slice ro ars.length cap, .int .i64 root, .int .i64 more] w fun e w' => e = .returned (.bool true) ∧ Ok w w' := by
  have HST : Hid (SAr w ro (ars.take 600)) := hs.take 600
  have HIN : Hid (∀ x ∈ ars.take 600, in64 x.1 ∧ in64 x.2) := fun x hx => hin x (List.mem_of_mem_take hx)
  have HTL : Hid ((ars.take 600).length ≤ 600) := by unfold Hid; rw [List.length_take]; omega
  by_cases h600 : 600 < ars.length
  · cases hb : (badV n root || (ars.take 600).any (badA n)) with
    | true => exact far_Abad HST hao hlc hn.1 hn.2 hr hm.1 hm.2 HIN HTL hc (by omega) (by unfold Hid; rw [List.length_take]; omega) (by omega) hb
    | false =>
      by_cases hbig : 1099511627776 < n
      · exact far_Abig HST hao hlc hn.1 hn.2 hr hm.1 hm.2 HIN HTL hc (by omega) (by unfold Hid; rw [List.length_take]; omega) (by omega) hb hbig
      · by_cases hmore : more < 0
        · exact far_Aneg HST hao hlc hn.1 hn.2 hr hm.1 hm.2 HIN HTL hc (by omega) (by unfold Hid; rw [List.length_take]; omega) (by omega) hb hbig hmore
        · exact far_Apos HST hao hlc hn.1 hn.2 hr hm.1 hm.2 HIN HTL hc (by omega) (by unfold Hid; rw [List.length_take]; omega) (by omega) hb hbig hmore
  · cases hb : (badV n root || (ars.take 600).any (badA n)) with
    | true => exact far_Bbad HST hao hlc hn.1 hn.2 hr hm.1 hm.2 HIN HTL hc (by omega) (by unfold Hid; rw [List.length_take]; omega) hb
    | false =>
      by_cases hbig : 1099511627776 < n
      · exact far_Bbig HST hao hlc hn.1 hn.2 hr hm.1 hm.2 HIN HTL hc (by omega) (by unfold Hid; rw [List.length_take]; omega) hb hbig
      · by_cases hmore : more < 0
        · exact far_Bneg HST hao hlc hn.1 hn.2 hr hm.1 hm.2 HIN HTL hc (by omega) (by unfold Hid; rw [List.length_take]; omega) hb hbig hmore
        · exact far_Bpos HST hao hlc hn.1 hn.2 hr hm.1 hm.2 HIN HTL hc (by omega) (by unfold Hid; rw [List.length_take]; omega) hb hbig hmore
end Go.Proofs.Ytegolobjeahhjaa
