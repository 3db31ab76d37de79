import Derived.Test.YtbkblijoimmdeaaRows
import Derived.Test.YtbkblijoimmdeaaKCdef
import Derived.Test.YtbkblijoimmdeaaKCok
set_option linter.unusedVariables false
set_option linter.unusedSimpArgs false
set_option linter.unnecessarySimpa false
/- Cbig Cgcd Cint -/
namespace Go.Proofs.Ytbkblijoimmdeaa
section
open Go.RowKit
/-- A number of 128 bits as a value. -/
def bv (n : Nat) : Value := .agg #[.int .u64 (hiB n), .int .u64 (loB n)]
end
section
open Go.RowKit
/-- The greatest power of two that divides g, at most 2^63. -/
def twoN (g : Nat) : Nat :=
  match (List.range 63).find? (fun i => g / 2 ^ i % 2 == 1) with
  | some i => 2 ^ i
  | none => 9223372036854775808
theorem twoN_at {g i : Nat} (hi : i < 63) (h1 : g / 2 ^ i % 2 = 1) (h0 : ∀ j, j < i → g / 2 ^ j % 2 = 0) : twoN g = 2 ^ i := by
  have : (List.range 63).find? (fun i => g / 2 ^ i % 2 == 1) = some i := by
    rw [List.find?_range_eq_some]
    refine ⟨by simp [h1], by simpa using hi, fun j hj => by simp [h0 j hj]⟩
  unfold twoN; rw [this]
theorem twoN_none {g : Nat} (h0 : ∀ j, j < 63 → g / 2 ^ j % 2 = 0) : twoN g = 9223372036854775808 := by
  have : (List.range 63).find? (fun i => g / 2 ^ i % 2 == 1) = none := by
    rw [List.find?_eq_none]
    intro j hj
    have := h0 j (by simpa using hj)
    simp [this]
  unfold twoN; rw [this]
end
section
open Go.RowKit
theorem infoCg : (Try.prog.info? 44).map (·.size) = some 2 := by kernel_rfl
/-- A class, and a whole number, as values. -/
def cv (M R : Nat) : Value := .agg #[.int .u64 (M : Int), .int .u64 (R : Int)]
end
end Go.Proofs.Ytbkblijoimmdeaa
