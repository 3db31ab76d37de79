import Derived.Test.YtaocomjhepgabaaKWoff
set_option linter.unusedVariables false
set_option linter.unusedSimpArgs false
set_option linter.unnecessarySimpa false
/- Wcal Wans -/
namespace Go.Proofs.Ytaocomjhepgabaa
section
open Go.RowKit
theorem add0 (g o : Nat) : (⟨g, 0, none⟩ : Addr).add o = ⟨g, o, none⟩ := by unfold Addr.add; split <;> simp_all
theorem cc_at (g : GD) (c : Cl Nat) (r : List (Cl Nat)) {f : Nat} {u : Value} (h : (cl5 g c)[f]? = some u) : ∀ p, (callCells g (p ++ c :: r))[r.length * 5 + f]? = some u
  | [] => by
    show (callCells g r ++ cl5 g c)[r.length * 5 + f]? = some u
    rw [← callCells_len g r, List.getElem?_append_right (Nat.le_add_right _ _), Nat.add_sub_cancel_left]
    exact h
  | a :: p => by
    show (callCells g (p ++ c :: r) ++ cl5 g a)[r.length * 5 + f]? = some u
    have hf : f < 5 := by
      have := (List.getElem?_eq_some_iff.1 h).1
      simpa [cl5] using this
    rw [List.getElem?_append_left (by rw [callCells_len]; simp; omega)]
    exact cc_at g c r h p
theorem set_app {α : Type} (A B : List α) (k : Nat) (u : α) : (A ++ B).set (A.length + k) u = A ++ B.set k u := by
  rw [List.set_append_right _ _ (Nat.le_add_right _ _), Nat.add_sub_cancel_left]
theorem cc_set (g : GD) (c d : Cl Nat) (r : List (Cl Nat)) {f : Nat} {u : Value} (hf : f < 5) (h : cl5 g d = (cl5 g c).set f u) : ∀ p, callCells g (p ++ d :: r) = (callCells g (p ++ c :: r)).set (r.length * 5 + f) u
  | [] => by
    show callCells g r ++ cl5 g d = (callCells g r ++ cl5 g c).set (r.length * 5 + f) u
    rw [← callCells_len g r, set_app, h]
  | a :: p => by
    show callCells g (p ++ d :: r) ++ cl5 g a = (callCells g (p ++ c :: r) ++ cl5 g a).set (r.length * 5 + f) u
    rw [List.set_append_left _ _ (by rw [callCells_len]; simp; omega), ← cc_set g c d r hf h p]
theorem MS.callCell {g : GD} {H : Nat} {wS w : World} {vk vl : Value} {S : St Nat} {gc n cap : Nat} (h : MS g H wS w (.slice (some ⟨gc, 0, none⟩) n cap) vk vl S) {p r : List (Cl Nat)} {c : Cl Nat} (e : S.calls = p ++ c :: r) :
    w.cell? ⟨gc, r.length * 5, none⟩ = some (.int .i64 (c.v : Nat)) ∧ w.cell? ⟨gc, r.length * 5 + 1, none⟩ = some (.int .i64 (arcOf g c : Nat)) ∧ w.cell? ⟨gc, r.length * 5 + 2, none⟩ = some (.int .i64 (c.least : Nat)) ∧ w.cell? ⟨gc, r.length * 5 + 3, none⟩ = some (.bool c.loop) ∧ w.cell? ⟨gc, r.length * 5 + 4, none⟩ = some (.bool c.second) ∧ (∀ k, w.frozen? ⟨gc, k, none⟩ = false) ∧ gc < w.heap.size ∧ H + 10 ≤ gc := by
  have key : ∀ (f : Nat) (u : Value), (cl5 g c)[f]? = some u → w.cell? ⟨gc, r.length * 5 + f, none⟩ = some u := fun f u hu => by
    have := h.co.cells (g := gc) rfl (r.length * 5 + f) u (by rw [e]; exact cc_at g c r hu p)
    rwa [add0] at this
  have hl := h.co.lt gc rfl
  refine ⟨key 0 _ rfl, key 1 _ rfl, key 2 _ rfl, key 3 _ rfl, key 4 _ rfl, fun k => ?_, hl.2, hl.1⟩
  rcases h.co.2 with ⟨e, _⟩ | ⟨g', cp, cur, e, h1, h2, h3, h4, h5, h6⟩
  · cases e
  · injection e with e1 e2 e3
    injection e1 with e1
    injection e1 with e1
    subst e1
    exact frozen_of_row _ _ _ _ _ h2
/-- One cell of one call is stored. -/
theorem MS.setCall {g : GD} {H : Nat} {wS w : World} {vk vl : Value} {S : St Nat} {gc n cap : Nat} (h : MS g H wS w (.slice (some ⟨gc, 0, none⟩) n cap) vk vl S) {p r : List (Cl Nat)} {c d : Cl Nat} (e : S.calls = p ++ c :: r) {f : Nat} {u : Value} (hf : f < 5) (hd : cl5 g d = (cl5 g c).set f u) :
    MS g H wS (w.setCell ⟨gc, r.length * 5 + f, none⟩ u) (.slice (some ⟨gc, 0, none⟩) n cap) vk vl ⟨p ++ d :: r, S.stack, S.list, S.depth, S.marks, S.count⟩ :=
  h.setC (by rw [e]; simp) (by rw [e]; exact cc_set g c d r hf hd p)
theorem MS.heard {g : GD} {H : Nat} {wS w : World} {vk vl : Value} {S : St Nat} {gc n cap : Nat} (h : MS g H wS w (.slice (some ⟨gc, 0, none⟩) n cap) vk vl S) {p r : List (Cl Nat)} {c : Cl Nat} (e : S.calls = p ++ c :: r) (m : Nat) :
    MS g H wS (heard w gc (r.length * 5) m c.least c.second) (.slice (some ⟨gc, 0, none⟩) n cap) vk vl ⟨p ++ hear c m :: r, S.stack, S.list, S.depth, S.marks, S.count⟩ := by
  by_cases hc : c.second = false ∧ m ≤ c.least
  · rw [heard_yes hc]
    have e1 : hear c m = ⟨c.v, c.rest, m, true, c.second⟩ := by unfold hear; rw [if_pos hc]
    have h1 := h.setCall (d := ⟨c.v, c.rest, m, c.loop, c.second⟩) e (f := 2) (u := .int .i64 (m : Nat)) (by omega) rfl
    have h2 := h1.setCall (p := p) (c := ⟨c.v, c.rest, m, c.loop, c.second⟩) (d := ⟨c.v, c.rest, m, true, c.second⟩) rfl (f := 3) (u := .bool true) (by omega) rfl
    rw [e1]; exact h2
  · rw [heard_no hc]
    have e1 : hear c m = c := by unfold hear; rw [if_neg hc]
    rw [e1]
    have : (⟨p ++ c :: r, S.stack, S.list, S.depth, S.marks, S.count⟩ : St Nat) = S := by rw [← e]
    rw [this]; exact h
set_option maxHeartbeats 4000000 in
theorem comp_any {g : GD} {H : Nat} {wS w : World} {vk vl : Value} {S : St Nat} {gc n cap : Nat} (h : MS g H wS w (.slice (some ⟨gc, 0, none⟩) n cap) vk vl S) {c : Cl Nat} {r : List (Cl Nat)} (e : S.calls = c :: r) (hv : c.v < g.N) (hd : S.depth ≤ 1000000000000) :
    Calls Try.prog 26 #[.pointer (some ⟨gc, r.length * 5, none⟩), .pointer (some ⟨H + 4, 0, none⟩), .pointer (some ⟨H, 0, none⟩)] w fun e w' => e = .returned (.tuple #[]) ∧ MS g H wS w' (.slice (some ⟨gc, 0, none⟩) n cap) vk vl ⟨⟨c.v, g.succ c.v, c.least, c.loop, true⟩ :: r, S.stack, S.list, S.depth + 1, S.marks, S.count⟩ := by
  obtain ⟨d, hd'⟩ : ∃ d, d = S.depth + 1 := ⟨_, rfl⟩
  have hwr : IntKind.i64.wrap ((S.depth : Int) + 1) = (d : Int) := wrap_nat (by omega) (by omega)
  have HD : Hid (d = S.depth + 1) := hd'
  clear hd'
  have hlt := h.lt
  have hG := h.gk.ok h.ok
  obtain ⟨d0, d1, d2⟩ := box_cell h.b4
  have HM : Hid (MS g H wS (w.setCell ⟨H + 4, 0, none⟩ (.int .i64 (d : Nat))) (.slice (some ⟨gc, 0, none⟩) n cap) vk vl ⟨S.calls, S.stack, S.list, d, S.marks, S.count⟩) := h.setDepth d
  obtain ⟨x0, x1, x2, x3, x4, x5, x6, x7⟩ := h.callCell (p := []) e
  have y1 := x5 (r.length * 5 + 1)
  have y4 := x5 (r.length * 5 + 4)
  clear x5
  have g0 : w.cell? ⟨H, 2, none⟩ = some (.slice (some ⟨g.b3, 0, none⟩) (g.N + 1) g.c3) := (cell_of_row _ _ 2 _ _ _ h.b0).trans (by simp)
  have hk := hG.k3 c.v (by omega)
  have hb3 := hG.l3
  have hbH : g.b3 < H := Nat.lt_of_lt_of_le h.gk.l3 h.hH
  have HU : Hid (g.bg c.v = arcOf g ⟨c.v, g.succ c.v, c.least, c.loop, c.second⟩) := by
    have := (hG.up c.v hv).1
    show g.bg c.v = g.bg (c.v + 1) - (g.succ c.v).length
    omega
  have hv' : c.v < g.N + 1 := by omega
  have n1 : ¬ H + 4 = gc := by omega
  have n2 : ¬ gc = H + 4 := by omega
  have n3 : ¬ H + 4 = g.b3 := by omega
  have n4 : ¬ g.b3 = H + 4 := by omega
  have hnN := hG.nN
  have HE : Hid (S.calls = [] ++ c :: r) := e
  clear h hG e
  go_enter Try.func26, Try.ntmps26
  go_wp2_with fail
  go_region
  all_goals
    go_wp2_with fail
    go_end0
    have h1 := HM.out.setCall (d := ⟨c.v, g.succ c.v, c.least, c.loop, c.second⟩) HE.out (f := 1) (u := .int .i64 (g.bg c.v : Nat)) (by omega) (by rw [HU.out]; rfl)
    have h2 := h1.setCall (p := []) (c := ⟨c.v, g.succ c.v, c.least, c.loop, c.second⟩) (d := ⟨c.v, g.succ c.v, c.least, c.loop, true⟩) rfl (f := 4) (u := .bool true) (by omega) rfl
    have hdd := HD.out
    subst hdd
    exact ⟨rfl, by repeat (first | exact h2 | exact h2.draws _)⟩
end
section
open Go.RowKit
set_option maxHeartbeats 4000000 in
theorem ans_any {g : GD} {H : Nat} {wS w : World} {vk vl : Value} {S : St Nat} {gc n cap : Nat} (h : MS g H wS w (.slice (some ⟨gc, 0, none⟩) n cap) vk vl S) {c : Cl Nat} {r : List (Cl Nat)} (e : S.calls = c :: r) (hn : n = S.calls.length) (hl : S.calls.length ≤ 1000000000000) :
    Calls Try.prog 29 #[.slice (some ⟨gc, 0, none⟩) n cap] w fun e w' => e = .returned (.slice (some ⟨gc, 0, none⟩) r.length cap) ∧ MS g H wS w' (.slice (some ⟨gc, 0, none⟩) n cap) vk vl ⟨c :: answered c r, S.stack, S.list, S.depth, S.marks, S.count⟩ := by
  have hcap := own_cap (by rw [hn]; rw [hn] at h; exact h.co : w.ownsRow (H + 10) 66 5 (.slice (some ⟨gc, 0, none⟩) n cap) n (callCells g S.calls))
  have hcap1 := hcap.1
  have hcap2 := hcap.2
  simp only [maxLen] at hcap2
  clear hcap
  obtain ⟨x0, x1, x2, x3, x4, x5, x6, x7⟩ := h.callCell (p := []) e
  have hnr : n = r.length + 1 := by rw [hn, e]; rfl
  have hw1 : IntKind.i64.wrap ((n : Int) - 1) = (r.length : Int) := wrap_nat (by omega) (by rw [e] at hl; simp at hl; omega)
  have hrn : r.length < n := by omega
  have hrc : r.length ≤ cap := by omega
  have HM : Hid (MS g H wS w (.slice (some ⟨gc, 0, none⟩) n cap) vk vl S) := h
  have HE : Hid (S.calls = c :: r) := e
  have hlt := h.lt
  clear hnr hn e h
  cases hr : r with
  | nil =>
    subst hr
    have hr0 : ([] : List (Cl Nat)).length = 0 := rfl
    simp only [List.length_nil] at *
    go_enter Try.func29, Try.ntmps29
    go_wp2_with fail
    go_ret
    refine ⟨rfl, ?_⟩
    have : (⟨c :: answered c [], S.stack, S.list, S.depth, S.marks, S.count⟩ : St Nat) = S := by
      show (⟨[c], S.stack, S.list, S.depth, S.marks, S.count⟩ : St Nat) = S
      rw [← HE.out]
    rw [this]; exact HM.out
  | cons d q =>
    have HE2 : Hid (S.calls = [c] ++ d :: q) := by unfold Hid; rw [HE.out, hr]; rfl
    obtain ⟨z0, z1, z2, z3, z4, z5, z6, z7⟩ := HM.out.callCell HE2.out
    have hrl : r.length = q.length + 1 := by rw [hr]; rfl
    have hw2 : IntKind.i64.wrap ((r.length : Int) - 1) = (q.length : Int) := wrap_nat (by omega) (by omega)
    have hpos : (0 : Int) < (r.length : Int) := by omega
    have hpos' : 0 < r.length := by omega
    have hqn : q.length < n := by omega
    have HR : Hid (r = d :: q) := hr
    have HRL : Hid ((d :: q).length = r.length) := by rw [hr]; rfl
    rw [HRL.out]
    clear hrl hr
    go_enter Try.func29, Try.ntmps29
    go_wp2_with fail
    go_region_with (go_at_call 30; refine (hear_any _ gc (q.length * 5) c.least d.least d.loop d.second (by first | exact x6 | (simp; exact x6)) (by simpa using z2) (by simpa using z3) (by simpa using z4) (by intro k; simpa using z5 k)).mono ?_; rintro e w1 ⟨rfl, hw⟩; have HF : Hid (MS g H wS w1 (.slice (some ⟨gc, 0, none⟩) n cap) vk vl ⟨[c] ++ hear d c.least :: q, S.stack, S.list, S.depth, S.marks, S.count⟩) := (by rw [hw]; exact MS.heard (MS.below HM.out (by repeat (first | exact Below.refl _ _ | refine Below.alloc ?_ (Nat.le_refl _) _ | refine Below.drew ?_))) HE2.out c.least); clear hw)
    all_goals
      go_wp2_with fail
      go_ret
      refine ⟨rfl, ?_⟩
      exact HF.out
end
end Go.Proofs.Ytaocomjhepgabaa
