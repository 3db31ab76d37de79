import Derived.Deep.RegionHeld3
import Derived.Test.YtgkbegmaffknbaaGreatFIsp
set_option linter.unusedVariables false
set_option linter.unusedSimpArgs false
set_option linter.unnecessarySimpa false
/- Iwid -/
namespace Go.Proofs.YtgkbegmaffknbaaGreat
open Go.RowKit
/-- Numbers in a row of memory. -/
def IntsAt (w : World) (tb o : Nat) (ts : List Int) : Prop := (∀ i (h : i < ts.length), w.cell? ⟨tb, o + i, none⟩ = some (.int .i64 ts[i])) ∧ tb < w.heap.size ∧ ts.length ≤ 4611686018427387904
theorem IntsAt.ok {w w1 : World} {tb o : Nat} {ts : List Int} (h : IntsAt w tb o ts) (hb : Ok w w1) : IntsAt w1 tb o ts :=
  ⟨fun i hi => Ok.cell hb h.2.1 (h.1 i hi), Nat.lt_of_lt_of_le h.2.1 hb.le, h.2.2⟩
/-- A slice of numbers; an empty one may have any address. -/
def SInts (w : World) (v : Value) (ts : List Int) : Prop := (∃ tb o cap, v = .slice (some ⟨tb, o, none⟩) ts.length cap ∧ IntsAt w tb o ts) ∨ (∃ ao cap, v = .slice ao 0 cap ∧ ts = [])
theorem SInts.form {w : World} {v : Value} {ts : List Int} (h : SInts w v ts) : ∃ ao n cap, v = .slice ao n cap := by
  rcases h with ⟨tb, o, cap, rfl, _⟩ | ⟨ao, cap, rfl, _⟩
  · exact ⟨_, _, _, rfl⟩
  · exact ⟨_, _, _, rfl⟩
end Go.Proofs.YtgkbegmaffknbaaGreat
