import Derived.Deep.RegionLaw
import Derived.Test.YtaocomjhepgabaaKWms
set_option linter.unusedVariables false
set_option linter.unusedSimpArgs false
set_option linter.unnecessarySimpa false
/- Wput -/
namespace Go.Proofs.Ytaocomjhepgabaa
open Go.RowKit
theorem Try.info35 : (Try.prog.info? 35).map (fun i => (i.zero, i.size, i.bytes)) = some (some (.agg #[.int .i64 0, .int .i64 0, .bool false]), 3, 24) := by kernel_rfl
theorem box_cell {w : World} {b : Nat} {v : Value} {t : TypeId} (h : w.heap[b]? = some (.cells #[v] t (0, 0))) : w.cell? ⟨b, 0, none⟩ = some v ∧ w.frozen? ⟨b, 0, none⟩ = false ∧ b < w.heap.size :=
  ⟨(cell_of_row _ _ 0 _ _ _ h).trans (by simp), frozen_of_row _ _ _ _ _ h, lt_row h⟩
theorem news_row {w : World} {B : Nat} {xs : List Value} {t : TypeId} (hb : w.heap[B]? = some (.cells xs.toArray t (0, 0))) : ∀ j u, xs[j]? = some u → w.cell? ((⟨B, 0, none⟩ : Addr).add j) = some u := fun j u hu => World.news_of_block hb j u (by simpa using hu)
set_option maxHeartbeats 4000000 in
theorem put_any {g : GD} {H : Nat} {wS w : World} {vc vk vl : Value} {S : St Nat} (h : MS g H wS w vc vk vl S) (v : Nat) (hv : v < g.N) (b : Bool) (hl : S.list.length ≤ 1000000000000) :
    Calls Try.prog 24 #[.int .i64 (v : Nat), .bool b, .pointer (some ⟨H + 3, 0, none⟩), .pointer (some ⟨H, 0, none⟩), .pointer (some ⟨H + 4, 0, none⟩)] w fun e w' => e = .returned (.tuple #[]) ∧ ∃ vl', MS g H wS w' vc vk vl' ⟨S.calls, S.stack, (v, S.depth, b) :: S.list, S.depth, S.marks, S.count⟩ := by
  have HM : Hid _ := h
  have hG := h.gk.ok h.ok
  have hlt := h.lt
  have hH := h.hH
  obtain ⟨l0, l1, l2⟩ := box_cell h.b3
  obtain ⟨d0, d1, d2⟩ := box_cell h.b4
  have g0 : w.cell? ⟨H, 0, none⟩ = some (.slice (some ⟨g.b1, 0, none⟩) g.N g.c1) := (cell_of_row _ _ 0 _ _ _ h.b0).trans (by simp)
  have hk := hG.k1 v hv
  have hb1 := hG.l1
  have hbH : g.b1 < H := Nat.lt_of_lt_of_le h.gk.l1 h.hH
  have hn := hG.nN
  have HO : Hid (w.ownsRow (H + 10) 35 3 vl S.list.length (elCells g S.list)) := h.lo
  obtain ⟨i0, hi0, hy0, hy1, hy2⟩ : ∃ i, Try.prog.info? 35 = some i ∧ i.zero = some (.agg #[.int .i64 0, .int .i64 0, .bool false]) ∧ i.size = 3 ∧ i.bytes = 24 := by
    have := Try.info35
    cases hq : Try.prog.info? 35 with
    | none => rw [hq] at this; cases this
    | some i => rw [hq] at this; simp at this; exact ⟨i, rfl, this.1, this.2.1, this.2.2⟩
  have HL63 : Hid (S.list.length + 1 ≤ maxLen) := by simp [maxLen, Hid]; omega
  have HLby : Hid ((S.list.length + 1) * 24 ≤ 140737488355328) := by simp [Hid]; omega
  obtain ⟨gl, lcap, hvl⟩ : ∃ gl lcap, vl = .slice gl S.list.length lcap := by
    rcases h.lo.2 with ⟨h1, h2⟩ | ⟨g', cap, cur, h1, _⟩
    · exact ⟨none, 0, by rw [h1, h2]⟩
    · exact ⟨_, cap, h1⟩
  subst hvl
  clear h hG
  go_enter Try.func24, Try.ntmps24
  go_wp2_with fail
  go_region_law (refine step_append_lies _ (by rfl) _ _ _ (by rfl) (H + 10) 35 i0 _ 3 24 Try.underlying23 hi0 hy0 hy1 hy2 rfl (by decide) _ S.list.length (elCells g S.list) (by rfl) (World.ownsRow.kept HO.out (grown_below (by repeat (first | exact Below.refl _ _ | refine Below.alloc ?_ (Nat.le_refl _) _ | refine Below.drew ?_))) (Classical.em _)) ⟨w.heap.size, 0, none⟩ 1 1 (el3 g (v, S.depth, b)) (by rfl) (by rfl) (by intro j u hj; exact news_row (heap_new0 _ _) j u hj) (by simp [el3, Value.oneCell']) (by decide) HL63.out HLby.out (by simp; omega) (w.heap.size + 1) (by simp) ?_; intro gg capg w4 hown4 hgrow hat4 hlt4; obtain ⟨q1, q2, q3, q4⟩ := MS.midL (MS.below HM.out (by repeat (first | exact Below.refl _ _ | refine Below.alloc ?_ (Nat.le_refl _) _ | refine Below.drew ?_))) hgrow; clear q4)
  all_goals
    go_wp2_with fail
    go_end0
    refine ⟨rfl, _, MS.putL (MS.below HM.out (by repeat (first | exact Below.refl _ _ | refine Below.alloc ?_ (Nat.le_refl _) _ | refine Below.drew ?_))) hgrow hown4 ?_⟩
    rcases hat4 with e | e
    · exact .inl e.symm
    · exact .inr ⟨gg, rfl, by simp; omega⟩
end Go.Proofs.Ytaocomjhepgabaa
