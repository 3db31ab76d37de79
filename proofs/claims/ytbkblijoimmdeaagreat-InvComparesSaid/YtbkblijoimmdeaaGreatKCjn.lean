import Derived.Test.YtbkblijoimmdeaaGreatKCdef
set_option linter.unusedVariables false
set_option linter.unusedSimpArgs false
/- Csem Cjn -/
namespace Go.Proofs.YtbkblijoimmdeaaGreat
section
open Go.RowKit
/-- The whole numbers of a class. -/
def MemC (M R : Nat) (v : Int) : Prop := if M = 0 then v = wrap64 (R : Int) else v % (M : Int) = ((R % M : Nat) : Int)
theorem memC_zero {R : Nat} {v : Int} : MemC 0 R v ↔ v = wrap64 (R : Int) := by unfold MemC; rw [if_pos rfl]
theorem memC_pos {M R : Nat} (h : 0 < M) {v : Int} : MemC M R v ↔ v % (M : Int) = ((R % M : Nat) : Int) := by unfold MemC; rw [if_neg (by omega)]
theorem rI_pos {M R : Nat} (h : 0 < M) : rI M R = ((R % M : Nat) : Int) := by unfold rI; rw [if_neg (by omega)]
theorem rI_zero (R : Nat) : rI 0 R = wrap64 (R : Int) := by unfold rI; rw [if_pos rfl]
theorem rI_mod {M R : Nat} (h : 0 < M) : rI M R % (M : Int) = ((R % M : Nat) : Int) := by
  rw [rI_pos h]
  have := Nat.mod_lt R h
  exact Int.emod_eq_of_lt (by omega) (by omega)
theorem rI_mem (M R : Nat) : MemC M R (rI M R) := by
  by_cases h : M = 0
  · subst h; rw [memC_zero, rI_zero]
  · rw [memC_pos (by omega)]; exact rI_mod (by omega)
/-- A number is in a class just if it differs from r by a multiple. -/
theorem memC_dvd (M R : Nat) (v : Int) : MemC M R v ↔ (M : Int) ∣ v - rI M R := by
  by_cases h : M = 0
  · subst h
    rw [memC_zero, rI_zero, Int.natCast_zero, Int.zero_dvd]; omega
  · rw [memC_pos (by omega), ← rI_mod (M := M) (R := R) (by omega)]
    rw [Int.emod_eq_emod_iff_emod_sub_eq_zero]
    exact ⟨Int.dvd_of_emod_eq_zero, Int.emod_eq_zero_of_dvd⟩
def leqC (cM cR dM dR : Nat) : Bool :=
  if dM = 0 then decide (cM = 0) && decide (cR = dR)
  else decide (cM % dM = 0) && decide (restN (rF cM cR) (rS cM cR) dM = restN (rF dM dR) (rS dM dR) dM)
theorem wrap_inj {a b : Nat} (ha : U64 a) (hb : U64 b) (h : wrap64 (a : Int) = wrap64 (b : Int)) : a = b := by
  unfold U64 at *; unfold wrap64 at h; omega
theorem rest_mod {M R : Nat} {m : Nat} (hm : 0 < m) : (restN (rF M R) (rS M R) m : Int) = rI M R % (m : Int) := by rw [restN_val hm, r_val]
theorem leqC_iff {cM cR dM dR : Nat} (hcR : U64 cR) (hdR : U64 dR) : leqC cM cR dM dR = true ↔ ∀ v, MemC cM cR v → MemC dM dR v := by
  unfold leqC
  by_cases h : dM = 0
  · rw [if_pos h, Bool.and_eq_true, decide_eq_true_eq, decide_eq_true_eq]
    subst h
    constructor
    · rintro ⟨rfl, rfl⟩ v hv; exact hv
    · intro hs
      by_cases hc : cM = 0
      · subst hc
        refine ⟨rfl, wrap_inj hcR hdR ?_⟩
        have := hs (wrap64 (cR : Int)) (memC_zero.2 rfl)
        exact memC_zero.1 this
      · exfalso
        have h1 := memC_zero.1 (hs _ (rI_mem cM cR))
        have h2 := memC_zero.1 (hs (rI cM cR + cM) ((memC_dvd _ _ _).2 ⟨1, by omega⟩))
        omega
  · rw [if_neg h, Bool.and_eq_true, decide_eq_true_eq, decide_eq_true_eq]
    have hd : 0 < dM := by omega
    have e1 : (restN (rF cM cR) (rS cM cR) dM = restN (rF dM dR) (rS dM dR) dM) ↔ rI cM cR % (dM : Int) = rI dM dR % (dM : Int) := by
      rw [← rest_mod hd, ← rest_mod hd]; omega
    rw [e1, Int.emod_eq_emod_iff_emod_sub_eq_zero]
    constructor
    · rintro ⟨p, q⟩ v hv
      rw [memC_dvd] at hv ⊢
      have p' : (dM : Int) ∣ (cM : Int) := Int.natCast_dvd_natCast.2 (Nat.dvd_of_mod_eq_zero p)
      have := Int.dvd_add (Int.dvd_trans p' hv) (Int.dvd_of_emod_eq_zero q)
      have e : v - rI cM cR + (rI cM cR - rI dM dR) = v - rI dM dR := by omega
      rwa [e] at this
    · intro hs
      have h1 := (memC_dvd _ _ _).1 (hs _ (rI_mem cM cR))
      have h2 := (memC_dvd _ _ _).1 (hs (rI cM cR + cM) ((memC_dvd _ _ _).2 ⟨1, by omega⟩))
      refine ⟨Nat.mod_eq_zero_of_dvd ?_, Int.emod_eq_zero_of_dvd h1⟩
      have := Int.dvd_sub h2 h1
      have e : rI cM cR + cM - rI dM dR - (rI cM cR - rI dM dR) = (cM : Int) := by omega
      rw [e] at this
      exact Int.natCast_dvd_natCast.1 this
/-- The bits of a number. -/
def bitsN (v : Int) : Nat := (v % 18446744073709551616).toNat
theorem bitsN_u64 (v : Int) : U64 (bitsN v) := by unfold U64 bitsN; omega
theorem wrap_bits {v : Int} (h : In64 v) : wrap64 (bitsN v : Int) = v := by unfold In64 at h; unfold wrap64 bitsN; omega
end
section
open Go.RowKit
/-- As it must be written. -/
def NormalC (M R : Nat) : Prop := M = 0 ∨ R < M
def normC (M R : Nat) : Nat × Nat := (M, if 0 < M then R % M else R)
theorem normC_mem (M R : Nat) (v : Int) : MemC (normC M R).1 (normC M R).2 v ↔ MemC M R v := by
  unfold normC
  by_cases h : 0 < M
  · simp only [if_pos h, memC_pos h, Nat.mod_mod]
  · simp only [if_neg h]
theorem normC_normal (M R : Nat) : NormalC (normC M R).1 (normC M R).2 := by
  unfold normC NormalC
  by_cases h : 0 < M
  · exact Or.inr (by simp only [if_pos h]; exact Nat.mod_lt _ h)
  · exact Or.inl (by simp only; omega)
end
end Go.Proofs.YtbkblijoimmdeaaGreat
