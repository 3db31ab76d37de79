import Derived.Test.YtbkblijoimmdeaaKCdvm
import Derived.Test.YtbkblijoimmdeaaKNset
set_option linter.unusedVariables false
set_option linter.unusedSimpArgs false
/- Nfm -/
namespace Go.Proofs.Ytbkblijoimmdeaa
open Go.RowKit
theorem joinN_norm {a b : Int × Int × Nat × Nat × Bool} (ha : RawN a) (hb : RawN b) : NormN (joinN a b) := by
  unfold joinN joinRaw
  have ra := normN_raw ha
  have rb := normN_raw hb
  have na := normN_norm ha
  have nb := normN_norm hb
  split
  · exact nb
  · split
    · exact na
    · have i := joinI_in ra.1 ra.2.1 rb.1 rb.2.1
      exact make_norm i.1 i.2
theorem joinC_u64 {cM cR dM dR : Nat} (h1 : U64 cM) (h3 : U64 dM) (h2 : U64 cR) (h4 : U64 dR) : U64 (joinC cM cR dM dR).1 ∧ U64 (joinC cM cR dM dR).2 := by
  unfold joinC
  refine classC_u64 ?_
  unfold joinG U64
  by_cases c : cM = 0 ∧ dM = 0
  · obtain ⟨rfl, rfl⟩ := c
    have p := wrap64_in (cR : Int)
    have q := wrap64_in (dR : Int)
    rw [rI_zero, rI_zero, Nat.gcd_zero_left, Nat.gcd_zero_left]
    unfold In64 at *
    omega
  · have : 0 < Nat.gcd cM dM := by
      apply Nat.pos_of_ne_zero
      intro z
      exact c (Nat.gcd_eq_zero_iff.1 z)
    have a := Nat.le_of_dvd this (Nat.gcd_dvd_left (Nat.gcd cM dM) (rI cM cR - rI dM dR).natAbs)
    have b : Nat.gcd cM dM < 18446744073709551616 := by
      unfold U64 at h1 h3
      by_cases z : cM = 0
      · rw [z, Nat.gcd_zero_left]; exact h3
      · exact Nat.lt_of_le_of_lt (Nat.le_of_dvd (by omega) (Nat.gcd_dvd_left cM dM)) h1
    omega
theorem joinN_raw {a b : Int × Int × Nat × Nat × Bool} (ha : RawN a) (hb : RawN b) : RawN (joinN a b) := by
  unfold joinN joinRaw
  have ra := normN_raw ha
  have rb := normN_raw hb
  split
  · exact rb
  · split
    · exact ra
    · have i := joinI_in ra.1 ra.2.1 rb.1 rb.2.1
      have c := joinC_u64 ra.2.2.1 rb.2.2.1 ra.2.2.2 rb.2.2.2
      exact make_raw i.1 i.2 c.1 c.2
theorem meetN_norm {a b : Int × Int × Nat × Nat × Bool} (ha : RawN a) (hb : RawN b) : NormN (meetN a b) := by
  unfold meetN meetRaw
  have ra := normN_raw ha
  have rb := normN_raw hb
  split
  · exact Or.inl rfl
  · split
    · exact Or.inl rfl
    · have i := meetI_in ra.1 ra.2.1 rb.1 rb.2.1
      exact make_norm i.1 i.2
theorem meetN_raw {a b : Int × Int × Nat × Nat × Bool} (ha : RawN a) (hb : RawN b) : RawN (meetN a b) := by
  unfold meetN meetRaw
  have ra := normN_raw ha
  have rb := normN_raw hb
  split
  · exact bot_raw
  · split
    · exact bot_raw
    · have i := meetI_in ra.1 ra.2.1 rb.1 rb.2.1
      have c := meet_u64 ra.2.2.1 ra.2.2.2 rb.2.2.1 rb.2.2.2
      exact make_raw i.1 i.2 c.1 c.2
/-- Is it one of the numbers? -/
def insN (a : Int × Int × Nat × Nat × Bool) (v : Int) : Bool := !a.2.2.2.2 && hasI a.1 a.2.1 v && hasC a.2.2.1 a.2.2.2.1 v
theorem insN_iff {a : Int × Int × Nat × Nat × Bool} (ha : RawN a) {v : Int} (hv : In64 v) : insN a v = true ↔ MemN a v := by
  unfold insN MemN hasI
  rw [Bool.and_eq_true, Bool.and_eq_true, Bool.and_eq_true, hasC_iff ha.2.2.2 hv]
  simp only [Bool.not_eq_true', decide_eq_true_eq]
  constructor
  · rintro ⟨⟨a, b, c⟩, d⟩; exact ⟨a, b, c, d⟩
  · rintro ⟨a, b, c, d⟩; exact ⟨⟨a, b, c⟩, d⟩
theorem bool_ext {a b : Bool} (h : a = true ↔ b = true) : a = b := by cases a <;> cases b <;> simp_all
theorem u_one : U64 1 := by unfold U64; omega
/-- Leq, as both forms of it are asked. -/
def lqN (a b : Int × Int × Nat × Nat × Bool) : Bool := leqN (normN a) (normN b)
theorem lqN_iff {a b : Int × Int × Nat × Nat × Bool} (ha : RawN a) (hb : RawN b) : lqN a b = true ↔ ∀ v, In64 v → MemN a v → MemN b v := by
  unfold lqN
  rw [leqN_iff (normN_norm ha) (normN_norm hb) (normN_raw ha).2.2.2 (normN_raw hb).2.2.2]
  exact ⟨fun h v hv m => (normN_mem hb hv).1 (h v hv ((normN_mem ha hv).2 m)), fun h v hv m => (normN_mem hb hv).2 (h v hv ((normN_mem ha hv).1 m))⟩
/-- One of a normal form's numbers, out of any number. -/
def someN (a : Int × Int × Nat × Nat × Bool) (v : Int) : Int :=
  if a.2.2.1 = 0 then a.1
  else if ((a.2.1 - a.1).toNat / a.2.2.1 + 1) % 18446744073709551616 = 0 then v
  else a.1 + ((bitsN v % (((a.2.1 - a.1).toNat / a.2.2.1 + 1) % 18446744073709551616) * a.2.2.1 : Nat) : Int)
theorem someN_mem {a : Int × Int × Nat × Nat × Bool} (na : NormN a) (h : a.2.2.2.2 = false) {v : Int} (hv : In64 v) : MemN a (someN a v) := by
  rcases na with na | na
  · rw [na] at h; cases h
  have e := norm_ends na
  have i1 := na.2.1
  have i2 := na.2.2.1
  have le := na.2.2.2.1
  unfold someN
  by_cases z : a.2.2.1 = 0
  · rw [if_pos z]; exact e.1
  rw [if_neg z]
  have M0 : 0 < a.2.2.1 := by omega
  obtain ⟨D, hD⟩ : ∃ D, D = (a.2.1 - a.1).toNat := ⟨_, rfl⟩
  rw [← hD]
  have hD' : (D : Int) = a.2.1 - a.1 := by omega
  have hD64 : D < 18446744073709551616 := by unfold In64 at *; omega
  have qle : D / a.2.2.1 ≤ D := Nat.div_le_self _ _
  have qmul : D / a.2.2.1 * a.2.2.1 ≤ D := Nat.div_mul_le_self _ _
  have qhalf : 2 ≤ a.2.2.1 → D / a.2.2.1 ≤ D / 2 := fun c => Nat.div_le_div_left c (by omega)
  obtain ⟨Q, hQ⟩ : ∃ Q, Q = D / a.2.2.1 := ⟨_, rfl⟩
  rw [← hQ] at qle qmul qhalf ⊢
  clear hQ
  by_cases n : (Q + 1) % 18446744073709551616 = 0
  · rw [if_pos n]
    have q1 : Q = 18446744073709551615 := by omega
    have q2 : D = 18446744073709551615 := by omega
    have q3 : a.2.2.1 = 1 := by
      rcases Nat.lt_or_ge a.2.2.1 2 with c | c
      · omega
      · exfalso
        have := qhalf c
        omega
    have l1 : a.1 < a.2.1 := by omega
    have c0 := (na.2.2.2.2.2.2.2 l1).2
    unfold In64 at *
    refine ⟨na.1, by omega, by omega, ?_⟩
    rw [q3, show a.2.2.2.1 = 0 by omega]
    exact all_mem v
  · have Q64 : Q + 1 < 18446744073709551616 := by omega
    rw [if_neg n, Nat.mod_eq_of_lt Q64]
    have k := Nat.mod_lt (bitsN v) (show 0 < Q + 1 by omega)
    obtain ⟨K, hK⟩ : ∃ K, K = bitsN v % (Q + 1) := ⟨_, rfl⟩
    rw [← hK] at k ⊢
    have km : K * a.2.2.1 ≤ D := Nat.le_trans (Nat.mul_le_mul_right _ (show K ≤ Q by omega)) qmul
    refine ⟨na.1, by omega, by omega, ?_⟩
    have c := e.1.2.2.2
    rw [memC_dvd] at c ⊢
    have d : (a.2.2.1 : Int) ∣ ((K * a.2.2.1 : Nat) : Int) := by rw [Int.natCast_mul]; exact Int.dvd_mul_left _ _
    have := Int.dvd_add c d
    rwa [show a.1 - rI a.2.2.1 a.2.2.2.1 + ((K * a.2.2.1 : Nat) : Int) = a.1 + ((K * a.2.2.1 : Nat) : Int) - rI a.2.2.1 a.2.2.2.1 by omega] at this
theorem someN_in {a : Int × Int × Nat × Nat × Bool} (ra : RawN a) (na : NormN a) {v : Int} (hv : In64 v) : In64 (someN a v) := by
  cases h : a.2.2.2.2
  · have m := someN_mem na h hv
    have p := ra.1; have q := ra.2.1; have r := m.2.1; have s := m.2.2.1
    unfold In64 at *; omega
  · rcases na with na | na
    · rw [na]; unfold someN botN; simp [In64]
    · rw [na.1] at h; cases h
end Go.Proofs.Ytbkblijoimmdeaa
