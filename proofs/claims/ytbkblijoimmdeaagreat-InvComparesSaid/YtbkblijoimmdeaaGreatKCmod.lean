import Derived.Test.YtbkblijoimmdeaaGreatKCint
set_option linter.unusedVariables false
set_option linter.unusedSimpArgs false
set_option linter.unnecessarySimpa false
/- Cmod -/
namespace Go.Proofs.YtbkblijoimmdeaaGreat
open Go.RowKit
theorem addMod_a {a b m : Nat} (ha : a < m) (hb : b < m) (h : m - b ≤ a) : (a + b) % m = a - (m - b) := by
  have : a + b = (a - (m - b)) + m := by omega
  rw [this, Nat.add_mod_right, Nat.mod_eq_of_lt (by omega)]
theorem addMod_b {a b m : Nat} (hb : b < m) (h : ¬ m - b ≤ a) : (a + b) % m = a + b := Nat.mod_eq_of_lt (by omega)
set_option maxHeartbeats 400000 in
theorem caddMod_any (a b m : Nat) (ha : a < m) (hb : b < m) (hm : U64 m) (w : World) :
    Calls Tryz.prog 99 #[.int .u64 (a : Int), .int .u64 (b : Int), .int .u64 (m : Int)] w fun e w' => e = .returned (.int .u64 (((a + b) % m : Nat) : Int)) ∧ w' = w := by
  unfold U64 at hm
  obtain ⟨r, hr⟩ : ∃ r, r = (a + b) % m := ⟨_, rfl⟩
  rw [← hr]
  have hw : IntKind.u64.wrap ((m : Int) - (b : Int)) = (m : Int) - (b : Int) := by rw [u64w]; omega
  by_cases h : m - b ≤ a
  · have E : Hid (r = a - (m - b)) := by unfold Hid; rw [hr]; exact addMod_a ha hb h
    have h2 : (m : Int) - (b : Int) ≤ (a : Int) := by omega
    have HX : Hid _ := And.intro ha (And.intro hb (And.intro hm h))
    clear ha hb h hm hr
    go_enter Tryz.func99, Tryz.ntmps99
    go_wp2_with fail
    go_ret
    refine ⟨retu ?_, rfl⟩
    have e1 := HX.out
    have e2 := E.out
    first | omega | (rw [u64w]; omega)
  · have E : Hid (r = a + b) := by unfold Hid; rw [hr]; exact addMod_b hb h
    have h2 : ¬ (m : Int) - (b : Int) ≤ (a : Int) := by omega
    have HX : Hid _ := And.intro ha (And.intro hb (And.intro hm h))
    clear ha hb h hm hr
    go_enter Tryz.func99, Tryz.ntmps99
    go_wp2_with fail
    go_ret
    refine ⟨retu ?_, rfl⟩
    have e1 := HX.out
    have e2 := E.out
    first | omega | (rw [u64w]; omega)
set_option maxHeartbeats 2000000 in
theorem ctimesMod_any (a b m : Nat) (ha : U64 a) (hb : U64 b) (hm : U64 m) (hm0 : 0 < m) (w0 w : World) (hok : Ok w0 w) :
    Calls Tryz.prog 61 #[.int .u64 (a : Int), .int .u64 (b : Int), .int .u64 (m : Int)] w fun e w' => e = .returned (.int .u64 ((a * b % m : Nat) : Int)) ∧ Ok w0 w' := by
  have HB : Hid (Big (a * b) ∧ Big m ∧ loB (a * b % m) = ((a * b % m : Nat) : Int)) := by
    have h1 : a * b ≤ 18446744073709551615 * 18446744073709551615 := Nat.mul_le_mul (by unfold U64 at ha; omega) (by unfold U64 at hb; omega)
    have h2 := Nat.mod_lt (a * b) hm0
    unfold U64 at hm
    refine ⟨by unfold Big; omega, by unfold Big; omega, (big_small (by omega)).2⟩
  have HU : Hid _ := And.intro ha (And.intro hb (And.intro hm hm0))
  clear ha hb hm hm0
  obtain ⟨V, hV⟩ : ∃ V, V = a * b % m := ⟨_, rfl⟩
  rw [← hV] at HB ⊢
  have HV : Hid _ := hV
  clear hV
  go_enter Tryz.func61, Tryz.ntmps61
  go_wp2_with fail
  refine (btimes_any a b HU.out.1 HU.out.2.1 w w (Ok.refl _)).mono ?_
  rintro e w1 ⟨rfl, hb1⟩
  go_wp2_with fail
  refine (bof_any m HU.out.2.2.1 w1 w1 (Ok.refl _)).mono ?_
  rintro e w2 ⟨rfl, hb2⟩
  go_wp2_with fail
  refine (bparted_any (a * b) m HU.out.2.2.2 HB.out.1 HB.out.2.1 w2 w2 (Ok.refl _)).mono ?_
  rintro e w3 ⟨rfl, hb3⟩
  rw [← HV.out]
  have HK : Hid (Ok w0 w3) := Ok.step (Ok.step (hok.step hb1) hb2) hb3
  clear hb1 hb2 hb3 hok
  unfold bv
  go_wp2_with fail
  go_ret
  rw [← HB.out.2.2]
  exact ⟨rfl, (HK.out.alloc _).alloc _⟩
end Go.Proofs.YtbkblijoimmdeaaGreat
