import Derived.Test.YtgkbegmaffknbaaGreatTCsem
set_option linter.unusedVariables false
set_option linter.unusedSimpArgs false
/- Cjn -/
namespace Go.Proofs.YtgkbegmaffknbaaGreat
open Go.RowKit
/-- As it must be written. -/
def NormalC (M R : Nat) : Prop := M = 0 ∨ R < M
def normC (M R : Nat) : Nat × Nat := (M, if 0 < M then R % M else R)
theorem normC_mem (M R : Nat) (v : Int) : MemC (normC M R).1 (normC M R).2 v ↔ MemC M R v := by
  unfold normC
  by_cases h : 0 < M
  · simp only [if_pos h, memC_pos h, Nat.mod_mod]
  · simp only [if_neg h]
theorem normC_normal (M R : Nat) : NormalC (normC M R).1 (normC M R).2 := by
  unfold normC NormalC
  by_cases h : 0 < M
  · exact Or.inr (by simp only [if_pos h]; exact Nat.mod_lt _ h)
  · exact Or.inl (by simp only; omega)
end Go.Proofs.YtgkbegmaffknbaaGreat
