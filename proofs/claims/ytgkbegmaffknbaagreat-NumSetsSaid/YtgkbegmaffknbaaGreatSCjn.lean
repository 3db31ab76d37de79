import Derived.Test.YtgkbegmaffknbaaGreatSCsem
set_option linter.unusedVariables false
set_option linter.unusedSimpArgs false
/- Cjn -/
namespace Go.Proofs.YtgkbegmaffknbaaGreat
open Go.RowKit
/-- The class of x by g. -/
def classC (x : Int) (g : Nat) : Nat × Nat := if g = 0 then (0, bitsN x) else (g, (x % (g : Int)).toNat)
/-- As it must be written. -/
def NormalC (M R : Nat) : Prop := M = 0 ∨ R < M
theorem classC_u64 {x : Int} {g : Nat} (hg : U64 g) : U64 (classC x g).1 ∧ U64 (classC x g).2 := by
  unfold classC U64 at *
  by_cases h : g = 0
  · rw [if_pos h]; exact ⟨by simp only; omega, bitsN_u64 x⟩
  · rw [if_neg h]
    have h2 := Int.emod_lt_of_pos x (show (0 : Int) < g by omega)
    exact ⟨hg, by simp only; omega⟩
def normC (M R : Nat) : Nat × Nat := (M, if 0 < M then R % M else R)
theorem normC_mem (M R : Nat) (v : Int) : MemC (normC M R).1 (normC M R).2 v ↔ MemC M R v := by
  unfold normC
  by_cases h : 0 < M
  · simp only [if_pos h, memC_pos h, Nat.mod_mod]
  · simp only [if_neg h]
theorem normC_normal (M R : Nat) : NormalC (normC M R).1 (normC M R).2 := by
  unfold normC NormalC
  by_cases h : 0 < M
  · exact Or.inr (by simp only [if_pos h]; exact Nat.mod_lt _ h)
  · exact Or.inl (by simp only; omega)
/-- Join(c, d). -/
def joinG (cM cR dM dR : Nat) : Nat := Nat.gcd (Nat.gcd cM dM) (rI cM cR - rI dM dR).natAbs
def joinC (cM cR dM dR : Nat) : Nat × Nat := classC (rI cM cR) (joinG cM cR dM dR)
theorem joinG_zero {cM cR dM dR : Nat} (h : joinG cM cR dM dR = 0) : cM = 0 ∧ dM = 0 ∧ rI cM cR = rI dM dR := by
  unfold joinG at h
  have h1 := Nat.gcd_eq_zero_iff.1 h
  have h2 := Nat.gcd_eq_zero_iff.1 h1.1
  exact ⟨h2.1, h2.2, by omega⟩
end Go.Proofs.YtgkbegmaffknbaaGreat
