import Derived.Test.YtbclkkpddomoiaaGreatCjo
set_option linter.unusedVariables false
set_option linter.unusedSimpArgs false
set_option linter.unnecessarySimpa false
/- Classes (winnowref12): by, Neg: contracts. -/
namespace Go.Proofs.YtbclkkpddomoiaaGreat
open Go.RowKit
/-- The class of x by g, if exact and g is below 2^64; by Two(g) else. -/
def byG (g : Nat) (exact : Bool) : Nat := if exact = true ∧ g < 18446744073709551616 then g else twoN g
theorem twoN_pos (g : Nat) : 0 < twoN g := by
  unfold twoN; split
  · exact Nat.pow_pos (by omega)
  · omega
theorem twoN_u64 (g : Nat) : U64 (twoN g) := by
  unfold twoN U64
  split
  · rename_i i h
    have h2 := List.mem_of_find?_eq_some h
    have h3 : i < 63 := by simpa using h2
    have : (2 : Nat) ^ i < 2 ^ 64 := Nat.pow_lt_pow_right (by omega) (by omega)
    exact this
  · omega
set_option maxRecDepth 100000 in
set_option maxHeartbeats 2000000 in
theorem cby_any (f : Nat) (s : Bool) (g : Nat) (exact' : Bool) (hf : Big f) (hg : Big g) (hg0 : 0 < g) (w0 w : World) (hok : Ok w0 w) :
    Calls Tryz.prog 134 #[iv f s, bv g, .bool exact'] w fun e w' => e = .returned (cv (byG g exact') (restN f s (byG g exact'))) ∧ Ok w0 w' := by
  have hle := hok.le
  have HP : Hid _ := And.intro hf (And.intro hg hg0)
  clear hf hg hg0
  unfold iv bv
  by_cases hc : exact' = true ∧ g < 18446744073709551616
  · have E : Hid (byG g exact' = g) := by unfold Hid byG; rw [if_pos hc]
    obtain ⟨rfl, hs⟩ := hc
    have e1 : (hiB g == 0) = true := by rw [(big_small hs).1]; rfl
    have HL : Hid (loB g = (g : Int)) := (big_small hs).2
    have HU : Hid (U64 g) := hs
    clear hs
    go_enter Tryz.func134, Tryz.ntmps134
    go_wp2_with fail
    obtain ⟨W, hW⟩ : ∃ W, W = ((w.alloc (.cells #[.int .u64 (hiB f), .int .u64 (loB f), .bool s] 104)).alloc (.cells #[.int .u64 (hiB g), .int .u64 (loB g)] 101)).alloc (.cells #[.int .u64 0, .int .u64 0] 26) := ⟨_, rfl⟩
    have ra : W.heap[w.heap.size]? = some (.cells #[.int .u64 (hiB f), .int .u64 (loB f), .bool s] 104) := by rw [hW]; exact (by repeat (first | (refine heap_at _ _ _ ?hx; case hx => (first | (simp; done) | (simp; omega))) | (refine heap_past _ _ _ ?hy ?_; case hy => (first | (simp; done) | (simp; omega))) | fail))
    have rb : W.heap[w.heap.size + 1]? = some (.cells #[.int .u64 (hiB g), .int .u64 (loB g)] 101) := by rw [hW]; exact (by repeat (first | (refine heap_at _ _ _ ?hx; case hx => (first | (simp; done) | (simp; omega))) | (refine heap_past _ _ _ ?hy ?_; case hy => (first | (simp; done) | (simp; omega))) | fail))
    have rr : W.heap[w.heap.size + 2]? = some (.cells #[.int .u64 0, .int .u64 0] 26) := by rw [hW]; exact (by repeat (first | (refine heap_at _ _ _ ?hx; case hx => (first | (simp; done) | (simp; omega))) | (refine heap_past _ _ _ ?hy ?_; case hy => (first | (simp; done) | (simp; omega))) | fail))
    have HW : Hid (Ok w0 W) := by rw [hW]; exact (by repeat (first | exact hok | refine Ok.alloc ?_ _ | refine Ok.draws ?_ _ | fail))
    rw [← hW]
    clear hW hok
    have HR : Hid _ := rr
    clear ra rb rr
    rw [HL.out]
    refine (cclass_any f s g HP.out.1 HU.out HP.out.2.2 W W (Ok.refl _)).mono ?_
    rintro e w' ⟨rfl, hb⟩
    have HR2 : Hid _ := Ok.row' hb HR.out
    have HB2 : Hid (Ok w0 w') := HW.out.step hb
    obtain ⟨c0, c1, c2, c3⟩ := row_facts HR2.out
    unfold cv
    go_wp2_with fail
    (try simp only [Exit.inBlock, Exit.then])
    refine bodyPost_ret (results_cell_row rfl _ _ (w.heap.size + 2) 26 #[_, _] (0, 0) _ rfl (row_set2 HR2.out _ _) Tryz.underlying26 rfl infoCg) rfl ?_
    rw [E.out]
    exact ⟨rfl, (HB2.out.set (show w0.heap.size ≤ w.heap.size + 2 by omega) _).set (show w0.heap.size ≤ w.heap.size + 2 by omega) _⟩
  · have E : Hid (byG g exact' = twoN g) := by unfold Hid byG; rw [if_neg hc]
    have HT : Hid _ := And.intro (twoN_pos g) (twoN_u64 g)
    obtain ⟨T, hT⟩ : ∃ T, T = twoN g := ⟨_, rfl⟩
    rw [← hT] at E HT
    have HTT : Hid _ := hT
    clear hT
    cases exact' with
    | false =>
      clear hc
      go_enter Tryz.func134, Tryz.ntmps134
      go_wp2_with fail
      obtain ⟨W, hW⟩ : ∃ W, W = ((w.alloc (.cells #[.int .u64 (hiB f), .int .u64 (loB f), .bool s] 104)).alloc (.cells #[.int .u64 (hiB g), .int .u64 (loB g)] 101)).alloc (.cells #[.int .u64 0, .int .u64 0] 26) := ⟨_, rfl⟩
      have ra : W.heap[w.heap.size]? = some (.cells #[.int .u64 (hiB f), .int .u64 (loB f), .bool s] 104) := by rw [hW]; exact (by repeat (first | (refine heap_at _ _ _ ?hx; case hx => (first | (simp; done) | (simp; omega))) | (refine heap_past _ _ _ ?hy ?_; case hy => (first | (simp; done) | (simp; omega))) | fail))
      have rb : W.heap[w.heap.size + 1]? = some (.cells #[.int .u64 (hiB g), .int .u64 (loB g)] 101) := by rw [hW]; exact (by repeat (first | (refine heap_at _ _ _ ?hx; case hx => (first | (simp; done) | (simp; omega))) | (refine heap_past _ _ _ ?hy ?_; case hy => (first | (simp; done) | (simp; omega))) | fail))
      have rr : W.heap[w.heap.size + 2]? = some (.cells #[.int .u64 0, .int .u64 0] 26) := by rw [hW]; exact (by repeat (first | (refine heap_at _ _ _ ?hx; case hx => (first | (simp; done) | (simp; omega))) | (refine heap_past _ _ _ ?hy ?_; case hy => (first | (simp; done) | (simp; omega))) | fail))
      have HW : Hid (Ok w0 W) := by rw [hW]; exact (by repeat (first | exact hok | refine Ok.alloc ?_ _ | refine Ok.draws ?_ _ | fail))
      rw [← hW]
      clear hW hok
      have HR : Hid _ := rr
      obtain ⟨a0, a1, a2, _⟩ := row3_facts ra
      obtain ⟨b0, b1, _, _⟩ := row_facts rb
      have z0 := lt_row ra
      have z1 := lt_row rb
      clear ra rb rr
      have bz : Ok W W := Ok.refl _
      have n1 : ¬ w.heap.size + 1 + 1 = w.heap.size := by omega
      have n2 : ¬ w.heap.size + 1 + 1 = w.heap.size + 1 := by omega
      go_region_held3 (fun w' => w'.cell? ⟨w.heap.size, 0, none⟩ = some (.int .u64 (hiB f)) ∧ w'.cell? ⟨w.heap.size, 1, none⟩ = some (.int .u64 (loB f)) ∧ w'.cell? ⟨w.heap.size, 2, none⟩ = some (.bool s) ∧ w'.cell? ⟨w.heap.size + 1, 0, none⟩ = some (.int .u64 (hiB g)) ∧ w'.cell? ⟨w.heap.size + 1, 1, none⟩ = some (.int .u64 (loB g))) (go_keep)
        (first
        | (go_at_call 186; refine (btwo_any g HP.out.2.1 W _ (by repeat (first | assumption | refine Ok.alloc ?_ _ | refine Below.drew ?_))).mono ?_; rintro e w' ⟨rfl, hb⟩; rw [← HTT.out]; have q0 := Ok.cell hb z0 a0; have q1 := Ok.cell hb z0 a1; have q2 := Ok.cell hb z0 a2; have q3 := Ok.cell hb z1 b0; have q4 := Ok.cell hb z1 b1; obtain ⟨c0, c1, c2, c3⟩ := row_facts (Ok.row' hb HR.out))
        | (go_at_call 124; refine (cclass_any f s T HP.out.1 HT.out.2 HT.out.1 W _ (by repeat (first | assumption | refine Ok.alloc ?_ _ | refine Below.drew ?_))).mono ?_; rintro e w' ⟨rfl, hb⟩; unfold cv; have q0 := Ok.cell hb z0 a0; have q1 := Ok.cell hb z0 a1; have q2 := Ok.cell hb z0 a2; have q3 := Ok.cell hb z1 b0; have q4 := Ok.cell hb z1 b1; obtain ⟨c0, c1, c2, c3⟩ := row_facts (Ok.row' hb HR.out))
        | fail)
      have HR2 : Hid _ := Ok.row' hb HR.out
      have HB2 : Hid (Ok w0 w') := HW.out.step hb
      go_wp2_with fail
      (try simp only [Exit.inBlock, Exit.then])
      refine bodyPost_ret (results_cell_row rfl _ _ (w.heap.size + 2) 26 #[_, _] (0, 0) _ rfl (row_set2 HR2.out _ _) Tryz.underlying26 rfl infoCg) rfl ?_
      rw [E.out]
      exact ⟨rfl, (HB2.out.set (show w0.heap.size ≤ w.heap.size + 2 by omega) _).set (show w0.heap.size ≤ w.heap.size + 2 by omega) _⟩
    | true =>
      have e1 : (hiB g == 0) = false := by
        have : ¬ g < 18446744073709551616 := fun h => hc ⟨rfl, h⟩
        unfold hiB; simp; omega
      clear hc
      go_enter Tryz.func134, Tryz.ntmps134
      go_wp2_with fail
      obtain ⟨W, hW⟩ : ∃ W, W = ((w.alloc (.cells #[.int .u64 (hiB f), .int .u64 (loB f), .bool s] 104)).alloc (.cells #[.int .u64 (hiB g), .int .u64 (loB g)] 101)).alloc (.cells #[.int .u64 0, .int .u64 0] 26) := ⟨_, rfl⟩
      have ra : W.heap[w.heap.size]? = some (.cells #[.int .u64 (hiB f), .int .u64 (loB f), .bool s] 104) := by rw [hW]; exact (by repeat (first | (refine heap_at _ _ _ ?hx; case hx => (first | (simp; done) | (simp; omega))) | (refine heap_past _ _ _ ?hy ?_; case hy => (first | (simp; done) | (simp; omega))) | fail))
      have rb : W.heap[w.heap.size + 1]? = some (.cells #[.int .u64 (hiB g), .int .u64 (loB g)] 101) := by rw [hW]; exact (by repeat (first | (refine heap_at _ _ _ ?hx; case hx => (first | (simp; done) | (simp; omega))) | (refine heap_past _ _ _ ?hy ?_; case hy => (first | (simp; done) | (simp; omega))) | fail))
      have rr : W.heap[w.heap.size + 2]? = some (.cells #[.int .u64 0, .int .u64 0] 26) := by rw [hW]; exact (by repeat (first | (refine heap_at _ _ _ ?hx; case hx => (first | (simp; done) | (simp; omega))) | (refine heap_past _ _ _ ?hy ?_; case hy => (first | (simp; done) | (simp; omega))) | fail))
      have HW : Hid (Ok w0 W) := by rw [hW]; exact (by repeat (first | exact hok | refine Ok.alloc ?_ _ | refine Ok.draws ?_ _ | fail))
      rw [← hW]
      clear hW hok
      have HR : Hid _ := rr
      obtain ⟨a0, a1, a2, _⟩ := row3_facts ra
      obtain ⟨b0, b1, _, _⟩ := row_facts rb
      have z0 := lt_row ra
      have z1 := lt_row rb
      clear ra rb rr
      have bz : Ok W W := Ok.refl _
      have n1 : ¬ w.heap.size + 1 + 1 = w.heap.size := by omega
      have n2 : ¬ w.heap.size + 1 + 1 = w.heap.size + 1 := by omega
      go_region_held3 (fun w' => w'.cell? ⟨w.heap.size, 0, none⟩ = some (.int .u64 (hiB f)) ∧ w'.cell? ⟨w.heap.size, 1, none⟩ = some (.int .u64 (loB f)) ∧ w'.cell? ⟨w.heap.size, 2, none⟩ = some (.bool s) ∧ w'.cell? ⟨w.heap.size + 1, 0, none⟩ = some (.int .u64 (hiB g)) ∧ w'.cell? ⟨w.heap.size + 1, 1, none⟩ = some (.int .u64 (loB g))) (go_keep)
        (first
        | (go_at_call 186; refine (btwo_any g HP.out.2.1 W _ (by repeat (first | assumption | refine Ok.alloc ?_ _ | refine Below.drew ?_))).mono ?_; rintro e w' ⟨rfl, hb⟩; rw [← HTT.out]; have q0 := Ok.cell hb z0 a0; have q1 := Ok.cell hb z0 a1; have q2 := Ok.cell hb z0 a2; have q3 := Ok.cell hb z1 b0; have q4 := Ok.cell hb z1 b1; obtain ⟨c0, c1, c2, c3⟩ := row_facts (Ok.row' hb HR.out))
        | (go_at_call 124; refine (cclass_any f s T HP.out.1 HT.out.2 HT.out.1 W _ (by repeat (first | assumption | refine Ok.alloc ?_ _ | refine Below.drew ?_))).mono ?_; rintro e w' ⟨rfl, hb⟩; unfold cv; have q0 := Ok.cell hb z0 a0; have q1 := Ok.cell hb z0 a1; have q2 := Ok.cell hb z0 a2; have q3 := Ok.cell hb z1 b0; have q4 := Ok.cell hb z1 b1; obtain ⟨c0, c1, c2, c3⟩ := row_facts (Ok.row' hb HR.out))
        | fail)
      have HR2 : Hid _ := Ok.row' hb HR.out
      have HB2 : Hid (Ok w0 w') := HW.out.step hb
      go_wp2_with fail
      (try simp only [Exit.inBlock, Exit.then])
      refine bodyPost_ret (results_cell_row rfl _ _ (w.heap.size + 2) 26 #[_, _] (0, 0) _ rfl (row_set2 HR2.out _ _) Tryz.underlying26 rfl infoCg) rfl ?_
      rw [E.out]
      exact ⟨rfl, (HB2.out.set (show w0.heap.size ≤ w.heap.size + 2 by omega) _).set (show w0.heap.size ≤ w.heap.size + 2 by omega) _⟩
end Go.Proofs.YtbclkkpddomoiaaGreat
