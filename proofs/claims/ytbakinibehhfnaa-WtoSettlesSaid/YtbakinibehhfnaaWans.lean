import Derived.Test.YtbakinibehhfnaaWcal
set_option linter.unusedVariables false
set_option linter.unusedSimpArgs false
set_option linter.unnecessarySimpa false
/- wto: answered. -/
namespace Go.Proofs.Ytbakinibehhfnaa
open Go.RowKit
set_option maxHeartbeats 4000000 in
theorem ans_any {g : GD} {H : Nat} {wS w : World} {vk vl : Value} {S : St Nat} {gc n cap : Nat} (h : MS g H wS w (.slice (some ⟨gc, 0, none⟩) n cap) vk vl S) {c : Cl Nat} {r : List (Cl Nat)} (e : S.calls = c :: r) (hn : n = S.calls.length) (hl : S.calls.length ≤ 1000000000000) :
    Calls Try.prog 29 #[.slice (some ⟨gc, 0, none⟩) n cap] w fun e w' => e = .returned (.slice (some ⟨gc, 0, none⟩) r.length cap) ∧ MS g H wS w' (.slice (some ⟨gc, 0, none⟩) n cap) vk vl ⟨c :: answered c r, S.stack, S.list, S.depth, S.marks, S.count⟩ := by
  have hcap := own_cap (by rw [hn]; rw [hn] at h; exact h.co : w.ownsRow (H + 10) 66 5 (.slice (some ⟨gc, 0, none⟩) n cap) n (callCells g S.calls))
  have hcap1 := hcap.1
  have hcap2 := hcap.2
  simp only [maxLen] at hcap2
  clear hcap
  obtain ⟨x0, x1, x2, x3, x4, x5, x6, x7⟩ := h.callCell (p := []) e
  have hnr : n = r.length + 1 := by rw [hn, e]; rfl
  have hw1 : IntKind.i64.wrap ((n : Int) - 1) = (r.length : Int) := wrap_nat (by omega) (by rw [e] at hl; simp at hl; omega)
  have hrn : r.length < n := by omega
  have hrc : r.length ≤ cap := by omega
  have HM : Hid (MS g H wS w (.slice (some ⟨gc, 0, none⟩) n cap) vk vl S) := h
  have HE : Hid (S.calls = c :: r) := e
  have hlt := h.lt
  clear hnr hn e h
  cases hr : r with
  | nil =>
    subst hr
    have hr0 : ([] : List (Cl Nat)).length = 0 := rfl
    simp only [List.length_nil] at *
    go_enter Try.func29, Try.ntmps29
    go_wp2_with fail
    go_ret
    refine ⟨rfl, ?_⟩
    have : (⟨c :: answered c [], S.stack, S.list, S.depth, S.marks, S.count⟩ : St Nat) = S := by
      show (⟨[c], S.stack, S.list, S.depth, S.marks, S.count⟩ : St Nat) = S
      rw [← HE.out]
    rw [this]; exact HM.out
  | cons d q =>
    have HE2 : Hid (S.calls = [c] ++ d :: q) := by unfold Hid; rw [HE.out, hr]; rfl
    obtain ⟨z0, z1, z2, z3, z4, z5, z6, z7⟩ := HM.out.callCell HE2.out
    have hrl : r.length = q.length + 1 := by rw [hr]; rfl
    have hw2 : IntKind.i64.wrap ((r.length : Int) - 1) = (q.length : Int) := wrap_nat (by omega) (by omega)
    have hpos : (0 : Int) < (r.length : Int) := by omega
    have hpos' : 0 < r.length := by omega
    have hqn : q.length < n := by omega
    have HR : Hid (r = d :: q) := hr
    have HRL : Hid ((d :: q).length = r.length) := by rw [hr]; rfl
    rw [HRL.out]
    clear hrl hr
    go_enter Try.func29, Try.ntmps29
    go_wp2_with fail
    go_region_with (go_at_call 30; refine (hear_any _ gc (q.length * 5) c.least d.least d.loop d.second (by first | exact x6 | (simp; exact x6)) (by simpa using z2) (by simpa using z3) (by simpa using z4) (by intro k; simpa using z5 k)).mono ?_; rintro e w1 ⟨rfl, hw⟩; have HF : Hid (MS g H wS w1 (.slice (some ⟨gc, 0, none⟩) n cap) vk vl ⟨[c] ++ hear d c.least :: q, S.stack, S.list, S.depth, S.marks, S.count⟩) := (by rw [hw]; exact MS.heard (MS.below HM.out (by repeat (first | exact Below.refl _ _ | refine Below.alloc ?_ (Nat.le_refl _) _ | refine Below.drew ?_))) HE2.out c.least); clear hw)
    all_goals
      go_wp2_with fail
      go_ret
      refine ⟨rfl, ?_⟩
      exact HF.out
end Go.Proofs.Ytbakinibehhfnaa
