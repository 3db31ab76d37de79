import Derived.Test.YtbakinibehhfnaaWnd
set_option linter.unusedVariables false
set_option linter.unusedSimpArgs false
set_option linter.unnecessarySimpa false
/- wto.Order: whether root and arcs are within. -/
namespace Go.Proofs.Ytbakinibehhfnaa
open Go.RowKit
def badV (n v : Int) : Bool := decide (v < 0) || decide (n ≤ v)
def badA (n : Int) (a : Int × Int) : Bool := badV n a.1 || badV n a.2
set_option maxHeartbeats 4000000 in
theorem none_any (w : World) (n v : Int) (b : Nat) (hc : w.cell? ⟨b, 0, none⟩ = some (.int .i64 n)) :
    Calls Try.prog 16 #[.int .i64 v, .pointer (some ⟨b, 0, none⟩)] w fun e w' => e = .returned (.bool (badV n v)) ∧ w' = w := by
  by_cases h1 : v < 0
  · have HE : Hid (badV n v = true) := by unfold Hid badV; simp [h1]
    have d1 : decide (v < 0) = true := by simpa using h1
    rw [HE.out]
    go_enter Try.func16, Try.ntmps16
    go_wp2_with fail
    go_ret
    exact ⟨rfl, rfl⟩
  · have d1 : decide (v < 0) = false := by simpa using h1
    by_cases h2 : n ≤ v
    · have HE : Hid (badV n v = true) := by unfold Hid badV; simp [h2]
      have d2 : decide (n ≤ v) = true := by simpa using h2
      rw [HE.out]
      go_enter Try.func16, Try.ntmps16
      go_wp2_with fail
      go_ret
      exact ⟨rfl, rfl⟩
    · have HE : Hid (badV n v = false) := by unfold Hid badV; simp [h1, h2]
      have d2 : decide (n ≤ v) = false := by simpa using h2
      have h2' : v < n := by omega
      rw [HE.out]
      go_enter Try.func16, Try.ntmps16
      go_wp2_with fail
      go_ret
      exact ⟨rfl, rfl⟩
set_option maxHeartbeats 4000000 in
theorem wrong_any (w : World) (n : Int) (a : Int × Int) (b bf : Nat) (hc : w.cell? ⟨b, 0, none⟩ = some (.int .i64 n)) (hb : b < w.heap.size) (hf : w.cell? ⟨bf, 0, none⟩ = some (.func (.func 16) #[] #[.pointer (some ⟨b, 0, none⟩)])) (hbf : bf < w.heap.size) :
    Calls Try.prog 17 #[.agg #[.int .i64 a.1, .int .i64 a.2], .pointer (some ⟨bf, 0, none⟩)] w fun e w' => e = .returned (.bool (badA n a)) ∧ Ok w w' := by
  obtain ⟨a1, a2⟩ := a
  have n1 : ¬ b = w.heap.size := by omega
  have n2 : ¬ bf = w.heap.size := by omega
  have HC : Hid (w.cell? ⟨b, 0, none⟩ = some (.int .i64 n)) := hc
  have HA : Hid (∀ o, (w.alloc o).cell? ⟨b, 0, none⟩ = some (.int .i64 n)) := fun o => (World.cell?_alloc_past _ _ _ hb).trans hc
  cases h1 : badV n a1 with
  | true =>
    have HE : Hid (badA n (a1, a2) = true) := by unfold Hid badA; rw [h1]; rfl
    rw [HE.out]
    have HV : Hid (badV n a1 = true) := h1
    clear h1
    go_enter Try.func17, Try.ntmps17
    go_wp2_with (go_at_call 16; refine (Calls.mono (none_any _ n a1 b (by first | exact HA.out _ | exact HC.out)) ?_); rw [HV.out]; rintro e w' ⟨rfl, hw⟩; replace hw := hw.symm; subst hw)
    go_ret
    exact ⟨rfl, (Ok.refl _).alloc _⟩
  | false =>
    have HE : Hid (badA n (a1, a2) = badV n a2) := by unfold Hid badA; rw [h1]; rfl
    rw [HE.out]
    have HV : Hid (badV n a1 = false) := h1
    clear h1
    go_enter Try.func17, Try.ntmps17
    go_wp2_with (first
      | (go_at_call_of 16 (a1); refine (Calls.mono (none_any _ n a1 b (by first | exact HA.out _ | exact HC.out)) ?_); rw [HV.out]; rintro e w' ⟨rfl, hw⟩; replace hw := hw.symm; subst hw)
      | (go_at_call_of 16 (a2); refine (Calls.mono (none_any _ n a2 b (by first | exact HA.out _ | exact HC.out)) ?_); rintro e w' ⟨rfl, hw⟩; replace hw := hw.symm; subst hw)
      | fail)
    go_ret
    exact ⟨rfl, (Ok.refl _).alloc _⟩
end Go.Proofs.Ytbakinibehhfnaa
