import Derived.Test.YtbkblijoimmdeaaGreatKCmod
set_option linter.unusedVariables false
set_option linter.unusedSimpArgs false
set_option linter.unnecessarySimpa false
/- Cinv -/
namespace Go.Proofs.YtbkblijoimmdeaaGreat
open Go.RowKit
set_option maxHeartbeats 400000 in
theorem caddMod_le (a b m : Nat) (ha : a < m) (hb : b ≤ m) (hm : U64 m) (w : World) :
    Calls Tryz.prog 99 #[.int .u64 (a : Int), .int .u64 (b : Int), .int .u64 (m : Int)] w fun e w' => e = .returned (.int .u64 (((a + b) % m : Nat) : Int)) ∧ w' = w := by
  by_cases h : b < m
  · exact caddMod_any a b m ha h hm w
  · have e : b = m := by omega
    subst e
    unfold U64 at hm
    have hr : (a + b) % b = a := by rw [Nat.add_mod_right, Nat.mod_eq_of_lt ha]
    rw [hr]
    have h2 : (0 : Int) ≤ (a : Int) := by omega
    go_enter Tryz.func99, Tryz.ntmps99
    go_wp2_with fail
    go_ret
    exact ⟨rfl, rfl⟩
theorem mod_dvd (a m : Nat) : (m : Int) ∣ ((a % m : Nat) : Int) - (a : Int) := by
  have := Nat.div_add_mod a m
  exact ⟨-((a / m : Nat) : Int), by rw [Int.mul_neg, ← Int.natCast_mul]; omega⟩
/-- A step of Euclid's way. -/
theorem inv_step {a m t n x y q : Nat} (hm : 0 < m) (h1 : (m : Int) ∣ (t : Int) * a - x) (h2 : (m : Int) ∣ (n : Int) * a - y) (hq : q * y ≤ x) :
    (m : Int) ∣ (((t + (m - q % m * n % m)) % m : Nat) : Int) * a - ((x - q * y : Nat) : Int) := by
  have hs : q % m * n % m < m := Nat.mod_lt _ hm
  have d1 := mod_dvd q m
  have d2 := mod_dvd (q % m * n) m
  have d3 := mod_dvd (t + (m - q % m * n % m)) m
  generalize hT : (t + (m - q % m * n % m)) % m = T at *
  generalize hS : q % m * n % m = S at *
  generalize hQ : q % m = Q at *
  have d4 : (m : Int) ∣ (T : Int) - ((t : Int) - q * n) := by
    have e1 : (m : Int) ∣ ((Q : Int) - (q : Int)) * (n : Int) := Int.dvd_trans d1 (Int.dvd_mul_right _ _)
    have e2 : (m : Int) ∣ (m : Int) := Int.dvd_refl _
    have e3 := Int.dvd_sub (Int.dvd_sub (Int.dvd_add d3 e2) d2) e1
    rw [Int.sub_mul] at e3
    have e4 : ((t + (m - S) : Nat) : Int) = (t : Int) + ((m : Int) - S) := by omega
    have e5 : ((Q * n : Nat) : Int) = (Q : Int) * n := Int.natCast_mul _ _
    rw [e4, e5] at e3
    have e6 : (T : Int) - ((t : Int) + ((m : Int) - S)) + m - ((S : Int) - (Q : Int) * n) - ((Q : Int) * n - (q : Int) * n) = (T : Int) - ((t : Int) - q * n) := by
      generalize (Q : Int) * n = u
      generalize (q : Int) * n = v
      omega
    rwa [e6] at e3
  have d5 : (m : Int) ∣ ((T : Int) - ((t : Int) - q * n)) * (a : Int) := Int.dvd_trans d4 (Int.dvd_mul_right _ _)
  have d6 : (m : Int) ∣ (q : Int) * ((n : Int) * a - y) := Int.dvd_trans h2 (Int.dvd_mul_left _ _)
  have d7 := Int.dvd_sub (Int.dvd_add d5 h1) d6
  have e7 : ((x - q * y : Nat) : Int) = (x : Int) - (q : Int) * y := by rw [Int.ofNat_sub hq, Int.natCast_mul]
  rw [e7]
  have e8 : ((T : Int) - ((t : Int) - q * n)) * a + ((t : Int) * a - x) - (q : Int) * ((n : Int) * a - y) = (T : Int) * a - ((x : Int) - (q : Int) * y) := by
    rw [Int.sub_mul, Int.sub_mul, Int.mul_sub, Int.mul_assoc]
    generalize (q : Int) * ((n : Int) * a) = u
    generalize (q : Int) * (y : Int) = v
    generalize (t : Int) * a = p
    generalize (T : Int) * a = r
    omega
  rwa [e8] at d7
theorem natCast_quo {x y : Nat} (hy : 0 < y) : ((x : Int)).tdiv (y : Int) = ((x / y : Nat) : Int) := by rw [Int.tdiv_eq_ediv_of_nonneg (by omega), Int.natCast_ediv]
set_option maxRecDepth 100000 in
set_option maxHeartbeats 4000000 in
theorem cinverse_any (a m : Nat) (ha : U64 a) (hm : U64 m) (hm2 : 2 ≤ m) (hg : Nat.gcd m (a % m) = 1) (w0 w : World) (hok : Ok w0 w) :
    Calls Tryz.prog 62 #[.int .u64 (a : Int), .int .u64 (m : Int)] w fun e w' => (∃ t : Nat, t < m ∧ (m : Int) ∣ (t : Int) * a - 1 ∧ e = .returned (.int .u64 (t : Int))) ∧ Ok w0 w' := by
  have HU : Hid _ := And.intro ha (And.intro hm (And.intro hm2 hg))
  obtain ⟨r0, hr0⟩ : ∃ r, r = a % m := ⟨_, rfl⟩
  have h1 : ((m : Int) == 0) = false := by simp; omega
  have h2 : ¬ (m : Int) = 0 := by omega
  have h3 : (m == 0) = false := by simp; omega
  have h4 : (a : Int).tmod (m : Int) = (r0 : Int) := by rw [hr0, Int.tmod_eq_emod_of_nonneg (by omega), Int.natCast_emod]
  have h5 : (a : Int) % (m : Int) = (r0 : Int) := by rw [hr0, Int.natCast_emod]
  have HR0 : Hid _ := hr0
  clear ha hm hm2 hg hr0
  go_enter Tryz.func62, Tryz.ntmps62
  go_wp2_with fail
  go_quiet (fail)
  go_wp2_with fail
  go_loopw [5, 6, 7, 8] (fun t n x y wr => ∃ T N X Y : Nat, t = .int .u64 (T : Int) ∧ n = .int .u64 (N : Int) ∧ x = .int .u64 (X : Int) ∧ y = .int .u64 (Y : Int) ∧ T < m ∧ N < m ∧ X ≤ m ∧ Y ≤ m ∧ Hid ((m : Int) ∣ (T : Int) * a - X) ∧ Hid ((m : Int) ∣ (N : Int) * a - Y) ∧ Hid (Nat.gcd X Y = 1) ∧ Hid (Ok w wr)) (fun _ _ _ y _ => (intOf y).toNat)
  case atStart =>
    have hm2 := HU.out.2.2.1
    have hrl : r0 < m := by rw [HR0.out]; exact Nat.mod_lt _ (by omega)
    refine ⟨0, 1, m, r0, rfl, rfl, rfl, rfl, by omega, by omega, by omega, by omega, ?_, ?_, ?_, by repeat (first | exact Ok.refl _ | refine Ok.draws ?_ _)⟩
    · exact ⟨-1, by simp⟩
    · have h := mod_dvd a m
      rw [← HR0.out] at h
      have h9 := (Int.dvd_neg).2 h
      unfold Hid
      rwa [show -((r0 : Int) - a) = ((1 : Nat) : Int) * a - r0 by simp; omega] at h9
    · unfold Hid; rw [HR0.out]; exact HU.out.2.2.2
  case round =>
    obtain ⟨T, N, X, Y, rfl, rfl, rfl, rfl, hT, hN, hX, hY, H1, H2, H3, HO⟩ := hrel
    have mu : m < 18446744073709551616 := HU.out.2.1
    by_cases h0 : Y = 0
    · subst h0
      have HX1 : Hid (X = 1) := by have := H3.out; rw [Nat.gcd_zero_right] at this; exact this
      go_wp2_with fail
      go_ret
      refine ⟨⟨T, hT, ?_, rfl⟩, hok.step HO.out⟩
      have := H1.out
      rw [HX1.out] at this
      exact this
    · have y0 : (0 : Int) < (Y : Int) := by omega
      have y1 : ((Y : Int) == 0) = false := by simp; omega
      have y2 : ¬ (Y : Int) = 0 := by omega
      obtain ⟨q, hq⟩ : ∃ q, q = X / Y := ⟨_, rfl⟩
      obtain ⟨qm, hqm⟩ : ∃ r, r = q % m := ⟨_, rfl⟩
      obtain ⟨S, hS⟩ : ∃ r, r = qm * N % m := ⟨_, rfl⟩
      obtain ⟨D, hD⟩ : ∃ r, r = m - S := ⟨_, rfl⟩
      obtain ⟨Z, hZ⟩ : ∃ r, r = X - q * Y := ⟨_, rfl⟩
      obtain ⟨P, hP⟩ : ∃ r, r = q * Y := ⟨_, rfl⟩
      have hm0 : 0 < m := by omega
      have hql : q ≤ X := by rw [hq]; exact Nat.div_le_self _ _
      have hPX : P ≤ X := by rw [hP, hq]; exact Nat.div_mul_le_self _ _
      have hSl : S < m := by rw [hS]; exact Nat.mod_lt _ hm0
      have hqml : qm < m := by rw [hqm]; exact Nat.mod_lt _ hm0
      have hZe : Z = X % Y := by
        have := Nat.div_add_mod X Y
        rw [Nat.mul_comm, ← hq] at this
        rw [hZ]; omega
      have hZl : Z < Y := by rw [hZe]; exact Nat.mod_lt _ (by omega)
      have e1 : (X : Int).tdiv (Y : Int) = (q : Int) := by rw [natCast_quo (by omega), hq]
      have e2 : (X : Int) / (Y : Int) = (q : Int) := by rw [hq, Int.natCast_ediv]
      have e3 : IntKind.u64.wrap (q : Int) = (q : Int) := by rw [u64w]; omega
      have e4 : (q : Int).tmod (m : Int) = (qm : Int) := by rw [hqm, Int.tmod_eq_emod_of_nonneg (by omega), Int.natCast_emod]
      have e5 : (q : Int) % (m : Int) = (qm : Int) := by rw [hqm, Int.natCast_emod]
      have e6 : (m : Int) - (S : Int) = (D : Int) := by omega
      have e7 : IntKind.u64.wrap (D : Int) = (D : Int) := by rw [u64w]; omega
      have e8 : (q : Int) * (Y : Int) = (P : Int) := by rw [hP, Int.natCast_mul]
      have e9 : IntKind.u64.wrap (P : Int) = (P : Int) := by rw [u64w]; omega
      have e10 : (X : Int) - (P : Int) = (Z : Int) := by rw [hZ, ← hP]; omega
      have e11 : IntKind.u64.wrap (Z : Int) = (Z : Int) := by rw [u64w]; omega
      have HST : Hid _ := inv_step (q := q) hm0 H1.out H2.out (by rw [← hP]; exact hPX)
      rw [← hqm, ← hS, ← hD, ← hZ] at HST
      have HG : Hid (Nat.gcd Y Z = 1) := by
        unfold Hid; rw [hZe, Nat.gcd_comm Y, ← Nat.gcd_rec, Nat.gcd_comm]; exact H3.out
      have HL : Hid _ := And.intro hSl (And.intro hqml (And.intro hZl (And.intro hm0 hS)))
      have HDm : Hid (D ≤ m) := by unfold Hid; omega
      have HTm : Hid ((T + D) % m < m) := Nat.mod_lt _ hm0
      clear h0 hq hqm hS hD hZ hP hql hPX hSl hqml hZe hZl
      go_wp2_with fail
      refine (ctimesMod_any qm N m (by unfold U64; have := HL.out; omega) (by unfold U64; omega) HU.out.2.1 HL.out.2.2.2.1 wr wr (Ok.refl _)).mono ?_
      rintro e w1 ⟨rfl, hb1⟩
      rw [← HL.out.2.2.2.2]
      go_wp2_with fail
      refine (caddMod_le T D m hT HDm.out HU.out.2.1 w1).mono ?_
      rintro e w2 ⟨rfl, rfl⟩
      obtain ⟨T2, hT2⟩ : ∃ t, t = (T + D) % m := ⟨_, rfl⟩
      rw [← hT2] at HST HTm ⊢
      clear hT2
      go_wp2_with fail
      have hz := HL.out.2.2.1
      exact ⟨⟨N, T2, Y, Z, rfl, rfl, rfl, rfl, hN, HTm.out, hY, by omega, H2, HST, HG, Ok.step HO.out hb1⟩, by simp only [intOf]; omega⟩
end Go.Proofs.YtbkblijoimmdeaaGreat
