import Derived.Test.YtbakinibehhfnaaWsam
import Derived.Test.YtbakinibehhfnaaWto
set_option linter.unusedVariables false
set_option linter.unusedSimpArgs false
set_option linter.unnecessarySimpa false
/- winnowlaw10: taken. -/
namespace Go.Proofs.Ytbakinibehhfnaa
open Go.RowKit
def ars4 : List (Int × Int) := [(0, 1), (1, 2), (2, 0), (2, 1)]
def els3 : List (Int × Int × Bool) := [(0, 1, true), (1, 2, true), (2, 2, false)]
theorem ends4 : Ends (outs ars4) (start (outs ars4) 0) [(0, 1, true), (1, 2, true), (2, 2, false)] := ⟨30, by kernel_rfl, by kernel_rfl⟩
set_option maxHeartbeats 4000000 in
theorem taken_any (w : World) : Calls Try.prog 8 #[] w fun e w' => e = .returned (.bool true) ∧ Ok w w' := by
  have HA : Hid (∀ w' : World, SAr (w'.alloc (.cells #[.int .i64 0, .int .i64 1, .int .i64 1, .int .i64 2, .int .i64 2, .int .i64 0, .int .i64 2, .int .i64 1] 29)) (some ⟨w'.heap.size, 0, none⟩) ars4) := by
    intro w' _
    refine ⟨w'.heap.size, 0, rfl, by simp, fun i x hx => ?_⟩
    have hr := heap_new0 w' (.cells #[.int .i64 0, .int .i64 1, .int .i64 1, .int .i64 2, .int .i64 2, .int .i64 0, .int .i64 2, .int .i64 1] 29)
    rw [cell_of_row _ _ _ _ _ _ hr, cell_of_row _ _ _ _ _ _ hr]
    match i, hx with
    | 0, hx => simp [ars4] at hx; subst hx; simp
    | 1, hx => simp [ars4] at hx; subst hx; simp
    | 2, hx => simp [ars4] at hx; subst hx; simp
    | 3, hx => simp [ars4] at hx; subst hx; simp
    | k + 4, hx => simp [ars4] at hx
  have HC : Hid (Calls Try.prog 7 #[.int .i64 3, .slice (some ⟨w.heap.size, 0, none⟩) 4 4, .int .i64 0] (w.alloc (.cells #[.int .i64 0, .int .i64 1, .int .i64 1, .int .i64 2, .int .i64 2, .int .i64 0, .int .i64 2, .int .i64 1] 29)) (OrderIs (w.alloc (.cells #[.int .i64 0, .int .i64 1, .int .i64 1, .int .i64 2, .int .i64 2, .int .i64 0, .int .i64 2, .int .i64 1] 29)) 3 ars4 0)) :=
    Order_any (ars := ars4) (HA.out w) (by decide) (by decide) (by decide) (by decide)
  have HB : Hid (∀ w' : World, SEl (w'.alloc (.cells #[.int .i64 0, .int .i64 1, .bool true, .int .i64 1, .int .i64 2, .bool true, .int .i64 2, .int .i64 2, .bool false] 35)) (some ⟨w'.heap.size, 0, none⟩) els3) := by
    intro w' _
    refine ⟨w'.heap.size, rfl, by simp, fun i x hx => ?_⟩
    have hr := heap_new0 w' (.cells #[.int .i64 0, .int .i64 1, .bool true, .int .i64 1, .int .i64 2, .bool true, .int .i64 2, .int .i64 2, .bool false] 35)
    rw [cell_of_row _ _ _ _ _ _ hr, cell_of_row _ _ _ _ _ _ hr, cell_of_row _ _ _ _ _ _ hr]
    match i, hx with
    | 0, hx => simp [els3] at hx; subst hx; simp
    | 1, hx => simp [els3] at hx; subst hx; simp
    | 2, hx => simp [els3] at hx; subst hx; simp
    | k + 3, hx => simp [els3] at hx
  go_enter Try.func8, Try.ntmps8
  go_wp2_with (first | (go_at_call 7; refine (Calls.mono HC.out ?_); rintro e w1 ⟨hk, _, hb⟩; obtain ⟨L, v, hL, rfl, ho, hll⟩ := hb (by decide); have hLe := Ends.one hL ends4; subst hLe; obtain ⟨_, ao, cap, rfl, hse⟩ := SEl.of ho; have HK : Hid (Ok w w1) := ((Ok.refl w).alloc _).step hk; have HSE : Hid (SEl w1 ao els3) := hse; clear hk hb hL ho hll hse) | (go_at_call 9; refine (Calls.mono (same_yes (xs := els3) (SEl.ok HSE.out ((Ok.refl _).alloc _)) (HB.out _) (by decide)) ?_); rintro e w2 ⟨rfl, hk⟩; have HK2 : Hid (Ok w1 w2) := ((Ok.refl w1).alloc _).step hk; clear hk) | fail)
  go_ret
  exact ⟨rfl, HK.out.step HK2.out⟩
end Go.Proofs.Ytbakinibehhfnaa
