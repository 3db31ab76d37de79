import Derived.Deep.RegionHeld3
import Derived.Test.YtgkbegmaffknbabGreatKIref
set_option linter.unusedVariables false
set_option linter.unusedSimpArgs false
set_option linter.unnecessarySimpa false
/- Iwh Itm Isp Iwid -/
namespace Go.Proofs.YtgkbegmaffknbabGreat
section
open Go.RowKit
def hiW (z : Int) : Int := z / 18446744073709551616
def loW (z : Int) : Int := z % 18446744073709551616
end
section
open Go.RowKit
def rowW (z : Int) : Obj := .cells #[.int .i64 (hiW z), .int .u64 (loW z)] 163
def TimesInv (w0 w wr : World) (X S : Int) : Prop :=
  Ok w0 wr ∧ w.heap.size + 4 ≤ wr.heap.size ∧ wr.heap[w.heap.size]? = some (rowW 0) ∧ wr.heap[w.heap.size + 2]? = some (rowW X) ∧ wr.heap[w.heap.size + 3]? = some (rowW S)
theorem TimesInv.below {w0 w wr w1 : World} {X S : Int} (h : TimesInv w0 w wr X S) (hb : Ok wr w1) : TimesInv w0 w w1 X S := by
  obtain ⟨h1, h2, h3, h4, h5⟩ := h
  have := hb.le
  exact ⟨h1.step hb, by omega, hb.row (by omega) h3, hb.row (by omega) h4, hb.row (by omega) h5⟩
end
section
open Go.RowKit
set_option maxHeartbeats 400000 in
theorem rempty_ex (l h : Int) (w : World) :
    Calls Tryz.prog 65 #[.agg #[.int .i64 l, .int .i64 h]] w fun e w' => e = .returned (.bool (decide (h < l))) ∧ w' = w.alloc (.cells #[.int .i64 l, .int .i64 h] 24) := by
  go_enter Tryz.func65, Tryz.ntmps65
  go_wp2
  go_ret
  exact ⟨rfl, rfl⟩
theorem wlo (z : Int) : wrap64 (loW z) = wrap64 z := by unfold loW wrap64; omega
end
section
open Go.RowKit
/-- Numbers in a row of memory. -/
def IntsAt (w : World) (tb o : Nat) (ts : List Int) : Prop := (∀ i (h : i < ts.length), w.cell? ⟨tb, o + i, none⟩ = some (.int .i64 ts[i])) ∧ tb < w.heap.size ∧ ts.length ≤ 4611686018427387904
theorem IntsAt.ok {w w1 : World} {tb o : Nat} {ts : List Int} (h : IntsAt w tb o ts) (hb : Ok w w1) : IntsAt w1 tb o ts :=
  ⟨fun i hi => Ok.cell hb h.2.1 (h.1 i hi), Nat.lt_of_lt_of_le h.2.1 hb.le, h.2.2⟩
/-- A slice of numbers; an empty one may have any address. -/
def SInts (w : World) (v : Value) (ts : List Int) : Prop := (∃ tb o cap, v = .slice (some ⟨tb, o, none⟩) ts.length cap ∧ IntsAt w tb o ts) ∨ (∃ ao cap, v = .slice ao 0 cap ∧ ts = [])
theorem SInts.form {w : World} {v : Value} {ts : List Int} (h : SInts w v ts) : ∃ ao n cap, v = .slice ao n cap := by
  rcases h with ⟨tb, o, cap, rfl, _⟩ | ⟨ao, cap, rfl, _⟩
  · exact ⟨_, _, _, rfl⟩
  · exact ⟨_, _, _, rfl⟩
end
end Go.Proofs.YtgkbegmaffknbabGreat
