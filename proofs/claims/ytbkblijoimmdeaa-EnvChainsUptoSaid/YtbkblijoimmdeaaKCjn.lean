import Derived.Test.YtbkblijoimmdeaaKCsem
set_option linter.unusedVariables false
set_option linter.unusedSimpArgs false
/- Cjn -/
namespace Go.Proofs.Ytbkblijoimmdeaa
open Go.RowKit
/-- The class of x by g. -/
def classC (x : Int) (g : Nat) : Nat × Nat := if g = 0 then (0, bitsN x) else (g, (x % (g : Int)).toNat)
theorem classC_mem {x : Int} {g : Nat} (hx : g = 0 → In64 x) (v : Int) : MemC (classC x g).1 (classC x g).2 v ↔ (g : Int) ∣ v - x := by
  unfold classC
  by_cases h : g = 0
  · rw [if_pos h]
    subst h
    simp only [memC_zero, wrap_bits (hx rfl), Int.natCast_zero, Int.zero_dvd]; omega
  · rw [if_neg h]
    have h1 := Int.emod_nonneg x (show (g : Int) ≠ 0 by omega)
    have h2 := Int.emod_lt_of_pos x (show (0 : Int) < g by omega)
    have e : (((x % (g : Int)).toNat % g : Nat) : Int) = x % (g : Int) := by
      rw [Nat.mod_eq_of_lt (by omega)]; omega
    simp only [memC_pos (show 0 < g by omega), e, Int.emod_eq_emod_iff_emod_sub_eq_zero]
    exact ⟨Int.dvd_of_emod_eq_zero, Int.emod_eq_zero_of_dvd⟩
/-- As it must be written. -/
def NormalC (M R : Nat) : Prop := M = 0 ∨ R < M
theorem classC_u64 {x : Int} {g : Nat} (hg : U64 g) : U64 (classC x g).1 ∧ U64 (classC x g).2 := by
  unfold classC U64 at *
  by_cases h : g = 0
  · rw [if_pos h]; exact ⟨by simp only; omega, bitsN_u64 x⟩
  · rw [if_neg h]
    have h2 := Int.emod_lt_of_pos x (show (0 : Int) < g by omega)
    exact ⟨hg, by simp only; omega⟩
def normC (M R : Nat) : Nat × Nat := (M, if 0 < M then R % M else R)
theorem normC_mem (M R : Nat) (v : Int) : MemC (normC M R).1 (normC M R).2 v ↔ MemC M R v := by
  unfold normC
  by_cases h : 0 < M
  · simp only [if_pos h, memC_pos h, Nat.mod_mod]
  · simp only [if_neg h]
theorem normC_normal (M R : Nat) : NormalC (normC M R).1 (normC M R).2 := by
  unfold normC NormalC
  by_cases h : 0 < M
  · exact Or.inr (by simp only [if_pos h]; exact Nat.mod_lt _ h)
  · exact Or.inl (by simp only; omega)
theorem normC_id {M R : Nat} (h : NormalC M R) : normC M R = (M, R) := by
  unfold normC
  rcases h with h | h
  · subst h; rfl
  · rw [if_pos (by omega), Nat.mod_eq_of_lt h]
/-- Join(c, d). -/
def joinG (cM cR dM dR : Nat) : Nat := Nat.gcd (Nat.gcd cM dM) (rI cM cR - rI dM dR).natAbs
def joinC (cM cR dM dR : Nat) : Nat × Nat := classC (rI cM cR) (joinG cM cR dM dR)
theorem rI_in {M R : Nat} (h : M = 0) : In64 (rI M R) := by subst h; rw [rI_zero]; exact wrap64_in _
theorem joinG_zero {cM cR dM dR : Nat} (h : joinG cM cR dM dR = 0) : cM = 0 ∧ dM = 0 ∧ rI cM cR = rI dM dR := by
  unfold joinG at h
  have h1 := Nat.gcd_eq_zero_iff.1 h
  have h2 := Nat.gcd_eq_zero_iff.1 h1.1
  exact ⟨h2.1, h2.2, by omega⟩
theorem joinC_mem {cM cR dM dR : Nat} (v : Int) : MemC (joinC cM cR dM dR).1 (joinC cM cR dM dR).2 v ↔ (joinG cM cR dM dR : Int) ∣ v - rI cM cR :=
  classC_mem (fun h => rI_in (joinG_zero h).1) v
theorem joinG_dvd (cM cR dM dR : Nat) : (joinG cM cR dM dR : Int) ∣ cM ∧ (joinG cM cR dM dR : Int) ∣ dM ∧ (joinG cM cR dM dR : Int) ∣ rI cM cR - rI dM dR := by
  have a : joinG cM cR dM dR ∣ Nat.gcd cM dM := Nat.gcd_dvd_left _ _
  have b : joinG cM cR dM dR ∣ (rI cM cR - rI dM dR).natAbs := Nat.gcd_dvd_right _ _
  exact ⟨Int.natCast_dvd_natCast.2 (Nat.dvd_trans a (Nat.gcd_dvd_left _ _)), Int.natCast_dvd_natCast.2 (Nat.dvd_trans a (Nat.gcd_dvd_right _ _)), Int.ofNat_dvd_left.2 b⟩
theorem join_left {cM cR dM dR : Nat} {v : Int} (h : MemC cM cR v) : MemC (joinC cM cR dM dR).1 (joinC cM cR dM dR).2 v := by
  rw [joinC_mem]; rw [memC_dvd] at h
  exact Int.dvd_trans (joinG_dvd cM cR dM dR).1 h
theorem join_right {cM cR dM dR : Nat} {v : Int} (h : MemC dM dR v) : MemC (joinC cM cR dM dR).1 (joinC cM cR dM dR).2 v := by
  rw [joinC_mem]; rw [memC_dvd] at h
  have a := Int.dvd_trans (joinG_dvd cM cR dM dR).2.1 h
  have b := Int.dvd_sub a (joinG_dvd cM cR dM dR).2.2
  rwa [show v - rI dM dR - (rI cM cR - rI dM dR) = v - rI cM cR by omega] at b
/-- Join is below what is above both. -/
theorem join_least {cM cR dM dR eM eR : Nat} (h1 : ∀ v, MemC cM cR v → MemC eM eR v) (h2 : ∀ v, MemC dM dR v → MemC eM eR v) {v : Int} (h : MemC (joinC cM cR dM dR).1 (joinC cM cR dM dR).2 v) : MemC eM eR v := by
  rw [joinC_mem] at h
  have a1 := (memC_dvd _ _ _).1 (h1 _ (rI_mem cM cR))
  have a2 := (memC_dvd _ _ _).1 (h1 (rI cM cR + cM) ((memC_dvd _ _ _).2 ⟨1, by omega⟩))
  have b1 := (memC_dvd _ _ _).1 (h2 _ (rI_mem dM dR))
  have b2 := (memC_dvd _ _ _).1 (h2 (rI dM dR + dM) ((memC_dvd _ _ _).2 ⟨1, by omega⟩))
  have d1 := Int.dvd_sub a2 a1
  have d2 := Int.dvd_sub b2 b1
  have d3 := Int.dvd_sub a1 b1
  rw [show rI cM cR + cM - rI eM eR - (rI cM cR - rI eM eR) = (cM : Int) by omega] at d1
  rw [show rI dM dR + dM - rI eM eR - (rI dM dR - rI eM eR) = (dM : Int) by omega] at d2
  rw [show rI cM cR - rI eM eR - (rI dM dR - rI eM eR) = rI cM cR - rI dM dR by omega] at d3
  have hg : (eM : Int) ∣ (joinG cM cR dM dR : Int) := Int.natCast_dvd_natCast.2 (Nat.dvd_gcd (Nat.dvd_gcd (Int.natCast_dvd_natCast.1 d1) (Int.natCast_dvd_natCast.1 d2)) (Int.ofNat_dvd_left.1 d3))
  rw [memC_dvd]
  have := Int.dvd_add (Int.dvd_trans hg h) a1
  rwa [show v - rI cM cR + (rI cM cR - rI eM eR) = v - rI eM eR by omega] at this
end Go.Proofs.Ytbkblijoimmdeaa
