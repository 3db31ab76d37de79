import Derived.Test.YtjngjanheoeojaaDoorText
namespace Go.Proofs.YtjngjanheoeojaaDoor
set_option linter.unusedVariables false
set_option linter.unusedSimpArgs false
open Go.RowKit
set_option maxHeartbeats 2000000 in
theorem sign_any (k : Nat) (hk : k < 16) (w : World) : Calls Tryd.prog 49 #[.int .i64 k] w fun y w' => y = .returned (.string ⟨(sgn k).toArray⟩) ∧ Below w.heap.size w w' := by
  have h : k = 0 ∨ k = 1 ∨ k = 2 ∨ k = 3 ∨ k = 4 ∨ k = 5 ∨ k = 6 ∨ k = 7 ∨ k = 8 ∨ k = 9 ∨ k = 10 ∨ k = 11 ∨ k = 12 ∨ k = 13 ∨ k = 14 ∨ k = 15 := by omega
  clear hk
  rcases h with rfl | rfl | rfl | rfl | rfl | rfl | rfl | rfl | rfl | rfl | rfl | rfl | rfl | rfl | rfl | rfl
  all_goals
    go_enter Tryd.func49, Tryd.ntmps49
    go_wp2_with fail
    go_ret
    exact ⟨rfl, (Below.refl _ _).alloc (Nat.le_refl _) _⟩
set_option maxHeartbeats 2000000 in
theorem level_any (n : Nd) (k : Nat) (hop : n.op = k) (hk0 : 0 ≤ n.kind) (h : (n.kind < 14 ∧ k = 0) ∨ (n.kind = 14 ∧ (k = 1 ∨ k = 2)) ∨ (n.kind = 15 ∧ 3 ≤ k ∧ k ≤ 15)) (w : World) :
    Calls Tryd.prog 50 #[ndVal n] w fun y w' => y = .returned (.int .i64 (lvl k)) ∧ Below w.heap.size w w' := by
  unfold ndVal
  rcases h with ⟨h1, rfl⟩ | ⟨h1, h2⟩ | ⟨h1, h2, h3⟩
  · have e : (lvl 0 : Int) = 7 := rfl
    rw [e]
    clear e hop
    go_enter Tryd.func50, Tryd.ntmps50
    go_wp2_with fail
    go_ret
    exact ⟨rfl, (Below.refl _ _).alloc (Nat.le_refl _) _⟩
  · have e : (lvl k : Int) = 6 := by rcases h2 with rfl | rfl <;> rfl
    rw [e, h1]
    clear e hop hk0 h1 h2
    go_enter Tryd.func50, Tryd.ntmps50
    go_wp2_with fail
    go_ret
    exact ⟨rfl, (Below.refl _ _).alloc (Nat.le_refl _) _⟩
  · rw [h1, hop]
    clear hop hk0 h1
    have h : k = 3 ∨ k = 4 ∨ k = 5 ∨ k = 6 ∨ k = 7 ∨ k = 8 ∨ k = 9 ∨ k = 10 ∨ k = 11 ∨ k = 12 ∨ k = 13 ∨ k = 14 ∨ k = 15 := by omega
    clear h2 h3
    rcases h with rfl | rfl | rfl | rfl | rfl | rfl | rfl | rfl | rfl | rfl | rfl | rfl | rfl
    all_goals
      go_enter Tryd.func50, Tryd.ntmps50
      go_wp2_with fail
      go_ret
      exact ⟨rfl, ((Below.refl _ _).alloc (Nat.le_refl _) _).alloc (by simp) _⟩
end Go.Proofs.YtjngjanheoeojaaDoor
