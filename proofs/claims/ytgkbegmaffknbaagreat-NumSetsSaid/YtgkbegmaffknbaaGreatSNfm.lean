import Derived.Test.YtgkbegmaffknbaaGreatSCrmc
import Derived.Test.YtgkbegmaffknbaaGreatSNset
set_option linter.unusedVariables false
set_option linter.unusedSimpArgs false
/- Nfm -/
namespace Go.Proofs.YtgkbegmaffknbaaGreat
open Go.RowKit
theorem joinC_u64 {cM cR dM dR : Nat} (h1 : U64 cM) (h3 : U64 dM) (h2 : U64 cR) (h4 : U64 dR) : U64 (joinC cM cR dM dR).1 ∧ U64 (joinC cM cR dM dR).2 := by
  unfold joinC
  refine classC_u64 ?_
  unfold joinG U64
  by_cases c : cM = 0 ∧ dM = 0
  · obtain ⟨rfl, rfl⟩ := c
    have p := wrap64_in (cR : Int)
    have q := wrap64_in (dR : Int)
    rw [rI_zero, rI_zero, Nat.gcd_zero_left, Nat.gcd_zero_left]
    unfold In64 at *
    omega
  · have : 0 < Nat.gcd cM dM := by
      apply Nat.pos_of_ne_zero
      intro z
      exact c (Nat.gcd_eq_zero_iff.1 z)
    have a := Nat.le_of_dvd this (Nat.gcd_dvd_left (Nat.gcd cM dM) (rI cM cR - rI dM dR).natAbs)
    have b : Nat.gcd cM dM < 18446744073709551616 := by
      unfold U64 at h1 h3
      by_cases z : cM = 0
      · rw [z, Nat.gcd_zero_left]; exact h3
      · exact Nat.lt_of_le_of_lt (Nat.le_of_dvd (by omega) (Nat.gcd_dvd_left cM dM)) h1
    omega
theorem nz_in {x : Int} (h : In64 x) : In64 (if x = 0 then 1 else x) ∧ In64 (if x = 0 then -1 else x) := by
  unfold In64 at *; constructor <;> split <;> omega
theorem nzRaw_norm {a : Int × Int × Nat × Nat × Bool} (ha : RawN a) (na : NormN a) : NormN (nzRaw a) := by
  unfold nzRaw
  split
  · exact na
  · exact make_norm (nz_in ha.1).1 (nz_in ha.2.1).2
/-- Is it one of the numbers? -/
def insN (a : Int × Int × Nat × Nat × Bool) (v : Int) : Bool := !a.2.2.2.2 && hasI a.1 a.2.1 v && hasC a.2.2.1 a.2.2.2.1 v
def topN : Int × Int × Nat × Nat × Bool := makeN (-9223372036854775808) 9223372036854775807 1 0
theorem min_in : In64 (-9223372036854775808) := by unfold In64; omega
theorem max_in : In64 9223372036854775807 := by unfold In64; omega
theorem u_one : U64 1 := by unfold U64; omega
/-- Leq, as both forms of it are asked. -/
def lqN (a b : Int × Int × Nat × Nat × Bool) : Bool := leqN (normN a) (normN b)
end Go.Proofs.YtgkbegmaffknbaaGreat
