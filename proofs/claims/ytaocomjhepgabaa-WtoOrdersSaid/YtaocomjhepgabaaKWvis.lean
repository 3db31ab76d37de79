import Derived.Test.YtaocomjhepgabaaKWput
set_option linter.unusedVariables false
set_option linter.unusedSimpArgs false
set_option linter.unnecessarySimpa false
/- Wvis -/
namespace Go.Proofs.Ytaocomjhepgabaa
open Go.RowKit
theorem Try.info66 : (Try.prog.info? 66).map (fun i => (i.zero, i.size, i.bytes)) = some (some (.agg #[.int .i64 0, .int .i64 0, .int .i64 0, .bool false, .bool false]), 5, 32) := by kernel_rfl
theorem Try.info3 : (Try.prog.info? 3).map (fun i => (i.zero, i.size, i.bytes)) = some (some (.int .i64 0), 1, 8) := by kernel_rfl
theorem info_of {t : TypeId} {z : Value} {s b : Nat} (h : (Try.prog.info? t).map (fun i => (i.zero, i.size, i.bytes)) = some (some z, s, b)) : ∃ i, Try.prog.info? t = some i ∧ i.zero = some z ∧ i.size = s ∧ i.bytes = b := by
  cases hq : Try.prog.info? t with
  | none => rw [hq] at h; cases h
  | some i => rw [hq] at h; simp at h; exact ⟨i, rfl, h.1, h.2.1, h.2.2⟩
theorem wrap_nat {x : Int} {k : Nat} (e : x = (k : Int)) (h : k < 9223372036854775808) : IntKind.i64.wrap x = (k : Int) := by rw [IntKind.wrap_i64]; omega
theorem own_form {w : World} {B : Nat} {e : TypeId} {s n : Nat} {v : Value} {xs : List Value} (h : w.ownsRow B e s v n xs) : ∃ ao cap, v = .slice ao n cap := by
  rcases h.2 with ⟨h1, h2⟩ | ⟨g, cap, cur, h1, _⟩
  · exact ⟨none, 0, by rw [h1, h2]⟩
  · exact ⟨_, cap, h1⟩
set_option maxHeartbeats 4000000 in
theorem visit_any {g : GD} {H : Nat} {wS w : World} {vc vk vl : Value} {S : St Nat} (h : MS g H wS w vc vk vl S) (v : Nat) (hv : v < g.N) (hc : S.count ≤ 1000000000000) (hl1 : S.calls.length ≤ 1000000000000) (hl2 : S.stack.length ≤ 1000000000000) :
    Calls Try.prog 25 #[.int .i64 (v : Nat), .pointer (some ⟨H + 7, 0, none⟩), .pointer (some ⟨H + 6, 0, none⟩), .pointer (some ⟨H + 2, 0, none⟩), .pointer (some ⟨H + 1, 0, none⟩), .pointer (some ⟨H, 0, none⟩)] w fun e w' => e = .returned (.tuple #[]) ∧ ∃ vc' vk', MS g H wS w' vc' vk' vl (visit g.succ v S) := by
  obtain ⟨ao, acap, rfl⟩ := own_form h.co
  obtain ⟨ko, kcap, rfl⟩ := own_form h.so
  obtain ⟨k, hk⟩ : ∃ k, k = S.count + 1 := ⟨_, rfl⟩
  have hwr : IntKind.i64.wrap ((S.count : Int) + 1) = (k : Int) := wrap_nat (by omega) (by omega)
  have HK : Hid (k = S.count + 1) := hk
  clear hk
  have hlt := h.lt
  have hH := h.hH
  obtain ⟨n0, n1, n2⟩ := box_cell h.b7
  obtain ⟨m0, m1, m2⟩ := box_cell h.b6
  obtain ⟨k0, k1, k2⟩ := box_cell h.b2
  have r0 : w.cell? ⟨H + 5, v, none⟩ = some (.int .i64 (S.marks v : Nat)) := (cell_of_row _ _ v _ _ _ h.b5).trans (mkRow_get _ _ v hv)
  have r1 : w.frozen? ⟨H + 5, v, none⟩ = false := frozen_of_row _ _ _ _ _ h.b5
  have HM : Hid (MS g H wS ((w.setCell ⟨H + 7, 0, none⟩ (.int .i64 (k : Nat))).setCell ⟨H + 5, v, none⟩ (.int .i64 (k : Nat))) _ _ vl _) := (h.setCount k).setMark v k
  clear h
  obtain ⟨i0, hi0, hy0, hy1, hy2⟩ := info_of Try.info3
  obtain ⟨i6, hi6, hz0, hz1, hz2⟩ := info_of Try.info66
  have HL63 : Hid (S.stack.length + 1 ≤ maxLen) := by simp [maxLen, Hid]; omega
  have HLby : Hid ((S.stack.length + 1) * 8 ≤ 140737488355328) := by simp [Hid]; omega
  have HC63 : Hid (S.calls.length + 1 ≤ maxLen) := by simp [maxLen, Hid]; omega
  have HCby : Hid ((S.calls.length + 1) * 32 ≤ 140737488355328) := by simp [Hid]; omega
  have hn := HM.out.gk.nN
  go_enter Try.func25, Try.ntmps25
  go_wp2_with (at_builtin; refine wpList_append_lies _ rfl _ _ 32 rfl (H + 10) 3 i0 _ 1 8 Try.underlying32 hi0 hy0 hy1 hy2 rfl (by decide) _ S.stack.length (stkCells S.stack) (by rfl) (HM.out.alloc _).so ⟨w.heap.size, 0, none⟩ 1 1 [.int .i64 (v : Nat)] (by rfl) rfl (by intro j u hj; exact news_row (heap_at _ _ _ (by simp)) j u hj) (by simp [Value.oneCell']) (by decide) HL63.out HLby.out (by simp; omega) (w.heap.size + 1) (by simp) ?_)
  intro gg capg w4 hown4 hgrow hat4 hlt4
  obtain ⟨q1, q2, q3, q4⟩ := MS.midK (HM.out.alloc _) hgrow
  have HM2 : Hid (MS g H wS (w4.setCell ⟨H + 2, 0, none⟩ (.slice (some ⟨gg, 0, none⟩) (S.stack.length + 1) capg)) _ _ vl ⟨S.calls, v :: S.stack, S.list, S.depth, upd S.marks v k, k⟩) := MS.putK (HM.out.alloc _) hgrow hown4 (by
    rcases hat4 with e | e
    · exact .inl e.symm
    · exact .inr ⟨gg, rfl, by simp; omega⟩)
  clear q4 hown4 hgrow hat4 hlt4 HM r0 r1 k0 k1 k2 m0 m1 m2 n0 n1 n2 hlt
  go_wp2_with fail
  obtain ⟨W, hW⟩ : ∃ W, W = w4.setCell ⟨H + 2, 0, none⟩ (.slice (some ⟨gg, 0, none⟩) (S.stack.length + 1) capg) := ⟨_, rfl⟩
  rw [← hW] at HM2 ⊢
  clear hW
  have hlt := HM2.out.lt
  have hG := HM2.out.gk.ok HM2.out.ok
  obtain ⟨c0, c1, c2⟩ := box_cell HM2.out.b1
  obtain ⟨n0, n1, n2⟩ := box_cell HM2.out.b7
  have g0 : W.cell? ⟨H, 2, none⟩ = some (.slice (some ⟨g.b3, 0, none⟩) (g.N + 1) g.c3) := (cell_of_row _ _ 2 _ _ _ HM2.out.b0).trans (by simp)
  have hk := hG.k3 v (by omega)
  have hb3 := hG.l3
  have hbH : g.b3 < H := Nat.lt_of_lt_of_le HM2.out.gk.l3 HM2.out.hH
  have HU : Hid (g.bg v = arcOf g ⟨v, g.succ v, k, false, false⟩) := by
    have := (hG.up v hv).1
    show g.bg v = g.bg (v + 1) - (g.succ v).length
    omega
  have hv' : v < g.N + 1 := by omega
  have hvi : (v : Int) < (g.N : Int) + 1 := by omega
  clear hG
  go_region_law (refine step_append_lies _ (by rfl) _ _ _ (by rfl) (H + 10) 66 i6 _ 5 32 Try.underlying62 hi6 hz0 hz1 hz2 rfl (by decide) _ S.calls.length (callCells g S.calls) (by rfl) (World.ownsRow.kept HM2.out.co (grown_below (by repeat (first | exact Below.refl _ _ | refine Below.alloc ?_ (Nat.le_refl _) _ | refine Below.drew ?_))) (Classical.em _)) ⟨W.heap.size, 0, none⟩ 1 1 [.int .i64 (v : Nat), .int .i64 (g.bg v : Nat), .int .i64 (k : Nat), .bool false, .bool false] (by rfl) (by rfl) (by intro j u hj; exact news_row (heap_new0 _ _) j u hj) (by simp [Value.oneCell']) (by decide) HC63.out HCby.out (by simp; omega) (W.heap.size + 1) (by simp) ?_; intro gc capc w5 hown5 hgrow hat5 hlt5; obtain ⟨q1, q2, q3, q4⟩ := MS.midC (MS.below HM2.out (by repeat (first | exact Below.refl _ _ | refine Below.alloc ?_ (Nat.le_refl _) _ | refine Below.drew ?_))) hgrow; clear q4)
  all_goals
    go_wp2_with fail
    go_end0
    have hown6 : w5.ownsRow (H + 10) 66 5 (.slice (some ⟨gc, 0, none⟩) (S.calls.length + 1) capc) (⟨v, g.succ v, k, false, false⟩ :: S.calls : List (Cl Nat)).length (callCells g (⟨v, g.succ v, k, false, false⟩ :: S.calls)) := by
      rw [HU.out] at hown5
      exact hown5
    have hfin := MS.putC (MS.below HM2.out (by repeat (first | exact Below.refl _ _ | refine Below.alloc ?_ (Nat.le_refl _) _ | refine Below.drew ?_))) hgrow hown6 (by
      rcases hat5 with e | e
      · exact .inl e.symm
      · exact .inr ⟨gc, rfl, by simp; omega⟩)
    have hkk := HK.out
    subst hkk
    exact ⟨rfl, _, _, hfin⟩
end Go.Proofs.Ytaocomjhepgabaa
