import Derived.Test.YtbkblijoimmdeaaKCjn
set_option linter.unusedVariables false
set_option linter.unusedSimpArgs false
/- Cmt -/
namespace Go.Proofs.Ytbkblijoimmdeaa
open Go.RowKit
theorem lcm_dvd_int {a b : Nat} {z : Int} : ((Nat.lcm a b : Nat) : Int) ∣ z ↔ (a : Int) ∣ z ∧ (b : Int) ∣ z := by
  rw [Int.ofNat_dvd_left, Int.ofNat_dvd_left, Int.ofNat_dvd_left]
  exact ⟨fun h => ⟨Nat.dvd_trans (Nat.dvd_lcm_left a b) h, Nat.dvd_trans (Nat.dvd_lcm_right a b) h⟩, fun h => Nat.lcm_dvd h.1 h.2⟩
/-- With one number in common they have just those in common that differ from it by multiples of both. -/
theorem common_iff {cM cR dM dR : Nat} {x : Int} (h1 : MemC cM cR x) (h2 : MemC dM dR x) (v : Int) : (MemC cM cR v ∧ MemC dM dR v) ↔ ((Nat.lcm cM dM : Nat) : Int) ∣ v - x := by
  rw [memC_dvd] at h1 h2
  rw [memC_dvd, memC_dvd, lcm_dvd_int]
  constructor
  · rintro ⟨a, b⟩
    have p := Int.dvd_sub a h1
    have q := Int.dvd_sub b h2
    rw [show v - rI cM cR - (x - rI cM cR) = v - x by omega] at p
    rw [show v - rI dM dR - (x - rI dM dR) = v - x by omega] at q
    exact ⟨p, q⟩
  · rintro ⟨a, b⟩
    have p := Int.dvd_add a h1
    have q := Int.dvd_add b h2
    rw [show v - x + (x - rI cM cR) = v - rI cM cR by omega] at p
    rw [show v - x + (x - rI dM dR) = v - rI dM dR by omega] at q
    exact ⟨p, q⟩
/-- They have one in common just if their numbers agree by the gcd. -/
theorem common_gcd {cM cR dM dR : Nat} {x : Int} (h1 : MemC cM cR x) (h2 : MemC dM dR x) : ((Nat.gcd cM dM : Nat) : Int) ∣ rI cM cR - rI dM dR := by
  rw [memC_dvd] at h1 h2
  have p := Int.dvd_trans (Int.natCast_dvd_natCast.2 (Nat.gcd_dvd_left cM dM)) h1
  have q := Int.dvd_trans (Int.natCast_dvd_natCast.2 (Nat.gcd_dvd_right cM dM)) h2
  have r := Int.dvd_sub q p
  rwa [show x - rI dM dR - (x - rI cM cR) = rI cM cR - rI dM dR by omega] at r
/-- The steps from c's number to one of d's: t of them, by the inverse. -/
theorem common_at {cM dM g m : Nat} {r1 r2 k t i : Int} (hg : 0 < g) (hc : (cM : Int) = g * k) (hd : (dM : Int) = g * m) (hi : (m : Int) ∣ i * k - 1) (s : Int) (hs : r2 - r1 = g * s) (ht : (m : Int) ∣ t - s * i) :
    (dM : Int) ∣ (r1 + cM * t) - r2 := by
  have a1 : (m : Int) ∣ (t - s * i) * k := Int.dvd_trans ht (Int.dvd_mul_right _ _)
  have a2 : (m : Int) ∣ s * (i * k - 1) := Int.dvd_trans hi (Int.dvd_mul_left _ _)
  have a3 : (m : Int) ∣ k * t - s := by
    have := Int.dvd_add a1 a2
    rwa [show (t - s * i) * k + s * (i * k - 1) = k * t - s by
      rw [Int.sub_mul, Int.mul_sub, Int.mul_one, Int.mul_assoc s i k, Int.mul_comm t k]; omega] at this
  rw [hd, hc]
  have a4 : (g : Int) * (m : Int) ∣ g * (k * t - s) := Int.mul_dvd_mul (Int.dvd_refl _) a3
  have e : r1 + g * k * t - r2 = g * (k * t - s) := by
    rw [Int.mul_sub, ← hs, Int.mul_assoc]; omega
  rw [e]; exact a4
end Go.Proofs.Ytbkblijoimmdeaa
