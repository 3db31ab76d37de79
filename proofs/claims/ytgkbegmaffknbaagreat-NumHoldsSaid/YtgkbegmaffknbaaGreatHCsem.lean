import Derived.Test.YtgkbegmaffknbaaGreatHImath
set_option linter.unusedVariables false
set_option linter.unusedSimpArgs false
/- Cmath Cdef Csem -/
namespace Go.Proofs.YtgkbegmaffknbaaGreat
section
open Go.RowKit
/-- The halves of a number of 128 bits. -/
def hiB (n : Nat) : Int := ((n / 18446744073709551616 : Nat) : Int)
def loB (n : Nat) : Int := ((n % 18446744073709551616 : Nat) : Int)
def Big (n : Nat) : Prop := n < 340282366920938463463374607431768211456
theorem big_small {n : Nat} (h : n < 18446744073709551616) : hiB n = 0 ∧ loB n = n := by unfold hiB loB; omega
end
section
open Go.RowKit
def U64 (a : Nat) : Prop := a < 18446744073709551616
/-- A whole number by its distance and its side. -/
def sval (f : Nat) (s : Bool) : Int := if s = true then -(f : Int) else f
def rF (M R : Nat) : Nat := if M = 0 then (wrap64 (R : Int)).natAbs else R % M
def rS (M R : Nat) : Bool := if M = 0 then decide (wrap64 (R : Int) < 0) else false
/-- r(c). -/
def rI (M R : Nat) : Int := if M = 0 then wrap64 (R : Int) else ((R % M : Nat) : Int)
theorem r_val (M R : Nat) : sval (rF M R) (rS M R) = rI M R := by
  unfold sval rF rS rI
  by_cases h : M = 0
  · rw [if_pos h, if_pos h, if_pos h]
    by_cases c : wrap64 (R : Int) < 0
    · rw [decide_eq_true c, if_pos rfl]; omega
    · rw [decide_eq_false c, if_neg (by simp)]; omega
  · rw [if_neg h, if_neg h, if_neg h, if_neg (by simp)]
theorem rF_rng {M R : Nat} (hM : U64 M) (hR : U64 R) : rF M R < 18446744073709551616 := by
  unfold rF; unfold U64 at *
  by_cases h : M = 0
  · rw [if_pos h]; have := wrap64_in (R : Int); unfold In64 at this; omega
  · rw [if_neg h]; have := Nat.mod_le R M; omega
/-- x mod m. -/
def restN (f : Nat) (s : Bool) (m : Nat) : Nat := if s = true ∧ f % m ≠ 0 then m - f % m else f % m
theorem restN_lt {f : Nat} {s : Bool} {m : Nat} (hm : 0 < m) : restN f s m < m := by
  unfold restN; have := Nat.mod_lt f hm; split <;> omega
theorem restN_val {f : Nat} {s : Bool} {m : Nat} (hm : 0 < m) : (restN f s m : Int) = sval f s % (m : Int) := by
  have hl := Nat.mod_lt f hm
  have e : (f : Int) = (m : Int) * ((f / m : Nat) : Int) + ((f % m : Nat) : Int) := by
    have := (Nat.div_add_mod f m).symm
    exact_mod_cast this
  unfold restN sval
  cases s with
  | false => simp
  | true =>
    simp only [if_true, true_and]
    by_cases h0 : f % m = 0
    · rw [if_neg (by simp [h0]), h0]
      rw [h0] at e
      have e2 : -(f : Int) = (m : Int) * (-((f / m : Nat) : Int)) := by rw [e]; simp [Int.mul_neg]
      rw [e2, Int.mul_emod_right]; rfl
    · rw [if_pos h0]
      have e2 : -(f : Int) = ((m - f % m : Nat) : Int) + (m : Int) * (-((f / m : Nat) : Int) - 1) := by
        rw [Int.ofNat_sub (by omega), Int.mul_sub, Int.mul_one, Int.mul_neg]
        omega
      rw [e2, Int.add_mul_emod_self_left, Int.emod_eq_of_lt (by omega) (by omega)]
end
section
open Go.RowKit
/-- The whole numbers of a class. -/
def MemC (M R : Nat) (v : Int) : Prop := if M = 0 then v = wrap64 (R : Int) else v % (M : Int) = ((R % M : Nat) : Int)
theorem memC_zero {R : Nat} {v : Int} : MemC 0 R v ↔ v = wrap64 (R : Int) := by unfold MemC; rw [if_pos rfl]
theorem memC_pos {M R : Nat} (h : 0 < M) {v : Int} : MemC M R v ↔ v % (M : Int) = ((R % M : Nat) : Int) := by unfold MemC; rw [if_neg (by omega)]
theorem rI_pos {M R : Nat} (h : 0 < M) : rI M R = ((R % M : Nat) : Int) := by unfold rI; rw [if_neg (by omega)]
theorem rI_zero (R : Nat) : rI 0 R = wrap64 (R : Int) := by unfold rI; rw [if_pos rfl]
theorem rI_mod {M R : Nat} (h : 0 < M) : rI M R % (M : Int) = ((R % M : Nat) : Int) := by
  rw [rI_pos h]
  have := Nat.mod_lt R h
  exact Int.emod_eq_of_lt (by omega) (by omega)
theorem rI_mem (M R : Nat) : MemC M R (rI M R) := by
  by_cases h : M = 0
  · subst h; rw [memC_zero, rI_zero]
  · rw [memC_pos (by omega)]; exact rI_mod (by omega)
/-- A number is in a class just if it differs from r by a multiple. -/
theorem memC_dvd (M R : Nat) (v : Int) : MemC M R v ↔ (M : Int) ∣ v - rI M R := by
  by_cases h : M = 0
  · subst h
    rw [memC_zero, rI_zero, Int.natCast_zero, Int.zero_dvd]; omega
  · rw [memC_pos (by omega), ← rI_mod (M := M) (R := R) (by omega)]
    rw [Int.emod_eq_emod_iff_emod_sub_eq_zero]
    exact ⟨Int.dvd_of_emod_eq_zero, Int.emod_eq_zero_of_dvd⟩
def leqC (cM cR dM dR : Nat) : Bool :=
  if dM = 0 then decide (cM = 0) && decide (cR = dR)
  else decide (cM % dM = 0) && decide (restN (rF cM cR) (rS cM cR) dM = restN (rF dM dR) (rS dM dR) dM)
theorem wrap_inj {a b : Nat} (ha : U64 a) (hb : U64 b) (h : wrap64 (a : Int) = wrap64 (b : Int)) : a = b := by
  unfold U64 at *; unfold wrap64 at h; omega
theorem rest_mod {M R : Nat} {m : Nat} (hm : 0 < m) : (restN (rF M R) (rS M R) m : Int) = rI M R % (m : Int) := by rw [restN_val hm, r_val]
theorem leqC_iff {cM cR dM dR : Nat} (hcR : U64 cR) (hdR : U64 dR) : leqC cM cR dM dR = true ↔ ∀ v, MemC cM cR v → MemC dM dR v := by
  unfold leqC
  by_cases h : dM = 0
  · rw [if_pos h, Bool.and_eq_true, decide_eq_true_eq, decide_eq_true_eq]
    subst h
    constructor
    · rintro ⟨rfl, rfl⟩ v hv; exact hv
    · intro hs
      by_cases hc : cM = 0
      · subst hc
        refine ⟨rfl, wrap_inj hcR hdR ?_⟩
        have := hs (wrap64 (cR : Int)) (memC_zero.2 rfl)
        exact memC_zero.1 this
      · exfalso
        have h1 := memC_zero.1 (hs _ (rI_mem cM cR))
        have h2 := memC_zero.1 (hs (rI cM cR + cM) ((memC_dvd _ _ _).2 ⟨1, by omega⟩))
        omega
  · rw [if_neg h, Bool.and_eq_true, decide_eq_true_eq, decide_eq_true_eq]
    have hd : 0 < dM := by omega
    have e1 : (restN (rF cM cR) (rS cM cR) dM = restN (rF dM dR) (rS dM dR) dM) ↔ rI cM cR % (dM : Int) = rI dM dR % (dM : Int) := by
      rw [← rest_mod hd, ← rest_mod hd]; omega
    rw [e1, Int.emod_eq_emod_iff_emod_sub_eq_zero]
    constructor
    · rintro ⟨p, q⟩ v hv
      rw [memC_dvd] at hv ⊢
      have p' : (dM : Int) ∣ (cM : Int) := Int.natCast_dvd_natCast.2 (Nat.dvd_of_mod_eq_zero p)
      have := Int.dvd_add (Int.dvd_trans p' hv) (Int.dvd_of_emod_eq_zero q)
      have e : v - rI cM cR + (rI cM cR - rI dM dR) = v - rI dM dR := by omega
      rwa [e] at this
    · intro hs
      have h1 := (memC_dvd _ _ _).1 (hs _ (rI_mem cM cR))
      have h2 := (memC_dvd _ _ _).1 (hs (rI cM cR + cM) ((memC_dvd _ _ _).2 ⟨1, by omega⟩))
      refine ⟨Nat.mod_eq_zero_of_dvd ?_, Int.emod_eq_zero_of_dvd h1⟩
      have := Int.dvd_sub h2 h1
      have e : rI cM cR + cM - rI dM dR - (rI cM cR - rI dM dR) = (cM : Int) := by omega
      rw [e] at this
      exact Int.natCast_dvd_natCast.1 this
/-- The bits of a number. -/
def bitsN (v : Int) : Nat := (v % 18446744073709551616).toNat
theorem bitsN_u64 (v : Int) : U64 (bitsN v) := by unfold U64 bitsN; omega
theorem wrap_bits {v : Int} (h : In64 v) : wrap64 (bitsN v : Int) = v := by unfold In64 at h; unfold wrap64 bitsN; omega
/-- Has(c, v). -/
def hasC (M R : Nat) (v : Int) : Bool := leqC 0 (bitsN v) M R
theorem hasC_iff {M R : Nat} {v : Int} (hR : U64 R) (hv : In64 v) : hasC M R v = true ↔ MemC M R v := by
  unfold hasC
  rw [leqC_iff (bitsN_u64 v) hR]
  constructor
  · intro h; exact h v (memC_zero.2 (wrap_bits hv).symm)
  · intro h u hu
    rw [memC_zero, wrap_bits hv] at hu
    rw [hu]; exact h
end
end Go.Proofs.YtgkbegmaffknbaaGreat
