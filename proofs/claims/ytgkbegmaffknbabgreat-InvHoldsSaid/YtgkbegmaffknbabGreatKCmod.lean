import Derived.Test.YtgkbegmaffknbabGreatKCint
set_option linter.unusedVariables false
set_option linter.unusedSimpArgs false
set_option linter.unnecessarySimpa false
/- Cmod -/
namespace Go.Proofs.YtgkbegmaffknbabGreat
open Go.RowKit
theorem addMod_a {a b m : Nat} (ha : a < m) (hb : b < m) (h : m - b ≤ a) : (a + b) % m = a - (m - b) := by
  have : a + b = (a - (m - b)) + m := by omega
  rw [this, Nat.add_mod_right, Nat.mod_eq_of_lt (by omega)]
theorem addMod_b {a b m : Nat} (hb : b < m) (h : ¬ m - b ≤ a) : (a + b) % m = a + b := Nat.mod_eq_of_lt (by omega)
set_option maxHeartbeats 400000 in
theorem caddMod_any (a b m : Nat) (ha : a < m) (hb : b < m) (hm : U64 m) (w : World) :
    Calls Tryz.prog 163 #[.int .u64 (a : Int), .int .u64 (b : Int), .int .u64 (m : Int)] w fun e w' => e = .returned (.int .u64 (((a + b) % m : Nat) : Int)) ∧ w' = w := by
  unfold U64 at hm
  obtain ⟨r, hr⟩ : ∃ r, r = (a + b) % m := ⟨_, rfl⟩
  rw [← hr]
  have hw : IntKind.u64.wrap ((m : Int) - (b : Int)) = (m : Int) - (b : Int) := by rw [u64w]; omega
  by_cases h : m - b ≤ a
  · have E : Hid (r = a - (m - b)) := by unfold Hid; rw [hr]; exact addMod_a ha hb h
    have h2 : (m : Int) - (b : Int) ≤ (a : Int) := by omega
    have HX : Hid _ := And.intro ha (And.intro hb (And.intro hm h))
    clear ha hb h hm hr
    go_enter Tryz.func163, Tryz.ntmps163
    go_wp2_with fail
    go_ret
    refine ⟨retu ?_, rfl⟩
    have e1 := HX.out
    have e2 := E.out
    first | omega | (rw [u64w]; omega)
  · have E : Hid (r = a + b) := by unfold Hid; rw [hr]; exact addMod_b hb h
    have h2 : ¬ (m : Int) - (b : Int) ≤ (a : Int) := by omega
    have HX : Hid _ := And.intro ha (And.intro hb (And.intro hm h))
    clear ha hb h hm hr
    go_enter Tryz.func163, Tryz.ntmps163
    go_wp2_with fail
    go_ret
    refine ⟨retu ?_, rfl⟩
    have e1 := HX.out
    have e2 := E.out
    first | omega | (rw [u64w]; omega)
end Go.Proofs.YtgkbegmaffknbabGreat
