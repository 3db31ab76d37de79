import Derived.Test.YtgkbegmaffknbaaGreatTNap
import Derived.Test.YtgkbegmaffknbaaGreatTNset
set_option linter.unusedVariables false
set_option linter.unusedSimpArgs false
/- Nfm -/
namespace Go.Proofs.YtgkbegmaffknbaaGreat
open Go.RowKit
theorem meetN_norm {a b : Int × Int × Nat × Nat × Bool} (ha : RawN a) (hb : RawN b) : NormN (meetN a b) := by
  unfold meetN meetRaw
  have ra := normN_raw ha
  have rb := normN_raw hb
  split
  · exact Or.inl rfl
  · split
    · exact Or.inl rfl
    · have i := meetI_in ra.1 ra.2.1 rb.1 rb.2.1
      exact make_norm i.1 i.2
theorem meetN_raw {a b : Int × Int × Nat × Nat × Bool} (ha : RawN a) (hb : RawN b) : RawN (meetN a b) := by
  unfold meetN meetRaw
  have ra := normN_raw ha
  have rb := normN_raw hb
  split
  · exact bot_raw
  · split
    · exact bot_raw
    · have i := meetI_in ra.1 ra.2.1 rb.1 rb.2.1
      have c := meet_u64 ra.2.2.1 ra.2.2.2 rb.2.2.1 rb.2.2.2
      exact make_raw i.1 i.2 c.1 c.2
theorem min_in : In64 (-9223372036854775808) := by unfold In64; omega
theorem max_in : In64 9223372036854775807 := by unfold In64; omega
theorem u_one : U64 1 := by unfold U64; omega
end Go.Proofs.YtgkbegmaffknbaaGreat
