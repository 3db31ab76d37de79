import Derived.Test.YtckkfmgbpembjaaKq
import Derived.Test.YtckkfmgbpembjaaKs
import Derived.Test.YtckkfmgbpembjaaKn
import Derived.Test.YtckkfmgbpembjaaKt
import Derived.Test.YtckkfmgbpembjaaCmet
import Derived.Test.YtckkfmgbpembjaaCsub
import Derived.Test.YtckkfmgbpembjaaCneg
import Derived.Test.YtckkfmgbpembjaaCup
import Derived.Test.YtckkfmgbpembjaaCdown
set_option linter.unusedVariables false
set_option linter.unusedSimpArgs false
set_option linter.unnecessarySimpa false
/- Package cong (as it landed): Norm, Mul: contracts; all fourteen stand (the others in the K texts). -/
namespace Go.Proofs.Ytckkfmgbpembjaa
open Go.RowKit
theorem pnorm_any (M R : Nat) (h1 : U64 M) (h2 : U64 R) (w0 w : World) (hok : Ok w0 w) :
    Calls Try.prog 14 #[cv M R] w fun e w' => e = .returned (cv (normC M R).1 (normC M R).2) ∧ Ok w0 w' := pnorm_u M R h1 h2 w0 w hok
theorem pmul_any (cM cR dM dR : Nat) (ex : Bool) (h1 : U64 cM) (h2 : U64 cR) (h3 : U64 dM) (h4 : U64 dR) (w0 w : World) (hok : Ok w0 w) :
    Calls Try.prog 22 #[cv cM cR, cv dM dR, .bool ex] w fun e w' => e = .returned (cv (mulC cM cR dM dR ex).1 (mulC cM cR dM dR ex).2) ∧ Ok w0 w' := by
  by_cases h0 : cM = 0 ∧ dM = 0
  · obtain ⟨rfl, rfl⟩ := h0
    exact pmul_one cR dR ex w0 w hok
  · by_cases hc : cM = 0 ∧ cR = 0
    · obtain ⟨rfl, rfl⟩ := hc
      exact pmul_zero dM dR ex (by omega) w0 w hok
    · by_cases hd : dM = 0 ∧ dR = 0
      · obtain ⟨rfl, rfl⟩ := hd
        exact pmul_c cM cR ex (by omega) w0 w hok
      · by_cases hz : cM = 0
        · exact pmul_b cM cR dM dR ex hz h0 hc hd h1 h2 h3 h4 w0 w hok
        · exact pmul_d cM cR dM dR ex hz h0 hc hd h1 h2 h3 h4 w0 w hok
end Go.Proofs.Ytckkfmgbpembjaa
