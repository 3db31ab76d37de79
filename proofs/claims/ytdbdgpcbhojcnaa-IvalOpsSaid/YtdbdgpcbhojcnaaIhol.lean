import Derived.Test.YtdbdgpcbhojcnaaIask
import Derived.Test.YtdbdgpcbhojcnaaIwk
set_option linter.unusedVariables false
set_option linter.unusedSimpArgs false
set_option linter.unnecessarySimpa false
/- IvalHolds: the law's walk. -/
namespace Go.Proofs.Ytdbdgpcbhojcnaa
open Go.RowKit
def rowP (al ah bl bh x y : Int) : Obj := .cells #[.int .i64 al, .int .i64 ah, .int .i64 bl, .int .i64 bh, .int .i64 x, .int .i64 y] 34
theorem pair_facts {w : World} {g : Nat} {al ah bl bh x y : Int} (h : w.heap[g]? = some (rowP al ah bl bh x y)) :
    w.cell? ⟨g, 0, none⟩ = some (.int .i64 al) ∧ w.cell? ⟨g, 1, none⟩ = some (.int .i64 ah) ∧ w.cell? ⟨g, 2, none⟩ = some (.int .i64 bl) ∧ w.cell? ⟨g, 3, none⟩ = some (.int .i64 bh) ∧ w.cell? ⟨g, 4, none⟩ = some (.int .i64 x) ∧ w.cell? ⟨g, 5, none⟩ = some (.int .i64 y) := by
  refine ⟨?_, ?_, ?_, ?_, ?_, ?_⟩
  · exact (cell_of_row _ _ 0 _ _ _ h).trans (by simp)
  · exact (cell_of_row _ _ 1 _ _ _ h).trans (by simp)
  · exact (cell_of_row _ _ 2 _ _ _ h).trans (by simp)
  · exact (cell_of_row _ _ 3 _ _ _ h).trans (by simp)
  · exact (cell_of_row _ _ 4 _ _ _ h).trans (by simp)
  · exact (cell_of_row _ _ 5 _ _ _ h).trans (by simp)
set_option maxRecDepth 100000 in
set_option maxHeartbeats 2000000 in
theorem holds_none (al ah bl bh x y : Int) (w0 w : World) (hok : Ok w0 w) (ha1 : In64 al) (ha2 : In64 ah) (hb1 : In64 bl) (hb2 : In64 bh) (he : ah < al ∨ bh < bl) :
    Calls Try.prog 5 #[.agg #[.int .i64 al, .int .i64 ah, .int .i64 bl, .int .i64 bh, .int .i64 x, .int .i64 y]] w fun e w' => e = .returned (.bool true) ∧ Ok w0 w' := by
  go_enter Try.func5, Try.ntmps5
  go_wp2_with fail
  obtain ⟨W, hW⟩ : ∃ W, W = w.alloc (rowP al ah bl bh x y) := ⟨_, rfl⟩
  have ra : W.heap[w.heap.size]? = some (rowP al ah bl bh x y) := by rw [hW]; exact heap_new0 _ _
  have hokW : Ok w0 W := by rw [hW]; exact hok.alloc _
  unfold rowP at hW
  rw [← hW]
  clear hW
  refine (works_any W W (Ok.refl _)).mono ?_
  rintro e w1 ⟨rfl, hb⟩
  obtain ⟨c0, c1, c2, c3, c4, c5⟩ := pair_facts (Ok.row' hb ra)
  have HW : Hid _ := And.intro ra (And.intro hokW hb)
  clear ra hokW hb
  by_cases e1 : ah < al
  · go_wp2_with fail
    go_loopw [3] (fun i wr => ∃ k : Nat, k ≤ 6 ∧ i = .int .i64 k ∧ Hid (Ok W wr)) (fun i _ => (6 - intOf i).toNat)
    case atStart => exact ⟨0, by omega, rfl, HW.out.2.2⟩
    case round =>
      obtain ⟨k, hk, rfl, hI⟩ := hrel
      have hRW : Hid _ := Ok.row' hI.out HW.out.1
      obtain ⟨p0, p1, p2, p3, p4, p5⟩ := pair_facts hRW.out
      by_cases hk1 : k < 6
      · have hk2 : (k : Int) < 6 := by omega
        go_wp2_with fail
        refine (asked_any k hk1 al ah bl bh wr wr (Ok.refl _) ha1 ha2 hb1 hb2).mono ?_
        rintro e w3 ⟨rfl, hb3⟩
        have hz := hb3.le
        have hlt : w.heap.size < w3.heap.size := by have := lt_row hRW.out; omega
        have hne : ¬ w.heap.size = w3.heap.size := by omega
        have EK : Hid (opK k al ah bl bh = (1, 0, true)) := noneK (Or.inl e1)
        rw [EK.out]
        obtain ⟨d0, d1, d2, d3, d4, d5⟩ := pair_facts (Ok.row' hb3 hRW.out)
        by_cases hk0 : k = 0
        · subst hk0
          go_wp2_with fail
          all_goals (refine ⟨⟨1, by omega, by first | rfl | omega, Ok.step hI.out (hb3.alloc _)⟩, ?_⟩; first | omega | (simp only [intOf]; omega) | simp [intOf])
        · have hk3 : 0 < (k : Int) := by omega
          go_wp2_with fail
          exact ⟨⟨k + 1, by omega, rfl, Ok.step hI.out (hb3.alloc _)⟩, by simp only [intOf]; omega⟩
      · go_wp2_with fail
        go_ret
        exact ⟨rfl, HW.out.2.1.step hI.out⟩
  · have e2 : bh < bl := by omega
    go_wp2_with fail
    go_loopw [3] (fun i wr => ∃ k : Nat, k ≤ 6 ∧ i = .int .i64 k ∧ Hid (Ok W wr)) (fun i _ => (6 - intOf i).toNat)
    case atStart => exact ⟨0, by omega, rfl, HW.out.2.2⟩
    case round =>
      obtain ⟨k, hk, rfl, hI⟩ := hrel
      have hRW : Hid _ := Ok.row' hI.out HW.out.1
      obtain ⟨p0, p1, p2, p3, p4, p5⟩ := pair_facts hRW.out
      by_cases hk1 : k < 6
      · have hk2 : (k : Int) < 6 := by omega
        go_wp2_with fail
        refine (asked_any k hk1 al ah bl bh wr wr (Ok.refl _) ha1 ha2 hb1 hb2).mono ?_
        rintro e w3 ⟨rfl, hb3⟩
        have hz := hb3.le
        have hlt : w.heap.size < w3.heap.size := by have := lt_row hRW.out; omega
        have hne : ¬ w.heap.size = w3.heap.size := by omega
        by_cases hk0 : k = 0
        · have hk3 : (k : Int) ≤ 0 := by omega
          obtain ⟨d0, d1, d2, d3, d4, d5⟩ := pair_facts (Ok.row' hb3 hRW.out)
          have hk4 : ¬ 0 < (k : Int) := by omega
          go_wp2_with fail
          all_goals (refine ⟨⟨1, by omega, by first | rfl | omega, Ok.step hI.out (hb3.alloc _)⟩, ?_⟩; first | omega | (simp only [intOf]; omega) | simp [intOf])
        · have hk3 : 0 < (k : Int) := by omega
          have EK : Hid (opK k al ah bl bh = (1, 0, true)) := noneK (Or.inr ⟨by omega, e2⟩)
          rw [EK.out]
          obtain ⟨d0, d1, d2, d3, d4, d5⟩ := pair_facts (Ok.row' hb3 hRW.out)
          go_wp2_with fail
          exact ⟨⟨k + 1, by omega, rfl, Ok.step hI.out (hb3.alloc _)⟩, by simp only [intOf]; omega⟩
      · go_wp2_with fail
        go_ret
        exact ⟨rfl, HW.out.2.1.step hI.out⟩
end Go.Proofs.Ytdbdgpcbhojcnaa
