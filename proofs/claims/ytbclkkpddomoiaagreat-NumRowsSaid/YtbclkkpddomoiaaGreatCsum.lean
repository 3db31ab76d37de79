import Derived.Test.YtbclkkpddomoiaaGreatCjo
set_option linter.unusedVariables false
set_option linter.unusedSimpArgs false
set_option linter.unnecessarySimpa false
/- Classes (winnowref12): sum of two whole numbers: contract. -/
namespace Go.Proofs.YtbclkkpddomoiaaGreat
open Go.RowKit
def sumF (f1 : Nat) (s1 : Bool) (f2 : Nat) (s2 : Bool) : Nat := if s1 = s2 then f1 + f2 else if f1 < f2 then f2 - f1 else f1 - f2
def sumS (f1 : Nat) (s1 : Bool) (f2 : Nat) (s2 : Bool) : Bool := if s1 = s2 then s1 else if f1 < f2 then !s1 else s1
theorem sum_val (f1 : Nat) (s1 : Bool) (f2 : Nat) (s2 : Bool) : sval (sumF f1 s1 f2 s2) (sumS f1 s1 f2 s2) = sval f1 s1 + sval f2 s2 := by
  unfold sumF sumS sval
  by_cases h : f1 < f2
  · cases s1 <;> cases s2 <;> simp [h] <;> omega
  · cases s1 <;> cases s2 <;> simp [h] <;> omega
set_option maxRecDepth 100000 in
set_option maxHeartbeats 4000000 in
theorem csum_any (f1 : Nat) (s1 : Bool) (f2 : Nat) (s2 : Bool) (h1 : U64 f1) (h2 : U64 f2) (w0 w : World) (hok : Ok w0 w) :
    Calls Tryz.prog 136 #[iv f1 s1, iv f2 s2] w fun e w' => e = .returned (iv (sumF f1 s1 f2 s2) (sumS f1 s1 f2 s2)) ∧ Ok w0 w' := by
  have hle := hok.le
  have HB : Hid (Big f1 ∧ Big f2) := by unfold U64 at *; unfold Hid Big; omega
  have HU : Hid _ := And.intro h1 h2
  clear h1 h2
  by_cases hs : s1 = s2
  · have E : Hid (sumF f1 s1 f2 s2 = subB f1 (subB 0 f2) ∧ sumS f1 s1 f2 s2 = s1) := by
      have := HU.out; unfold U64 at this
      refine ⟨?_, ?_⟩
      · unfold sumF subB; rw [if_pos hs]; omega
      · unfold sumS; rw [if_pos hs]
    subst hs
    have HX : Hid (mHi (hiB f1) (loB f1) (mHi 0 0 (hiB f2) (loB f2)) (mLo 0 (loB f2)) = hiB (subB f1 (subB 0 f2)) ∧ mLo (loB f1) (mLo 0 (loB f2)) = loB (subB f1 (subB 0 f2))) := by
      have z : Big 0 := by unfold Big; omega
      have e1 := mHi_val z HB.out.2
      have e2 := mLo_val z HB.out.2
      rw [show hiB 0 = 0 from rfl, show loB 0 = 0 from rfl] at e1
      rw [show loB 0 = 0 from rfl] at e2
      unfold Hid
      rw [e1, e2]
      exact ⟨mHi_val HB.out.1 (subB_big _ _), mLo_val HB.out.1 (subB_big _ _)⟩
    unfold iv
    go_enter Tryz.func136, Tryz.ntmps136
    go_wp2_with fail
    obtain ⟨W, hW⟩ : ∃ W, W = ((w.alloc (.cells #[.int .u64 (hiB f1), .int .u64 (loB f1), .bool s1] 104)).alloc (.cells #[.int .u64 (hiB f2), .int .u64 (loB f2), .bool s1] 104)).alloc (.cells #[.int .u64 0, .int .u64 0, .bool false] 104) := ⟨_, rfl⟩
    have ra : W.heap[w.heap.size]? = some (.cells #[.int .u64 (hiB f1), .int .u64 (loB f1), .bool s1] 104) := by rw [hW]; exact (by repeat (first | (refine heap_at _ _ _ ?hx; case hx => (first | (simp; done) | (simp; omega))) | (refine heap_past _ _ _ ?hy ?_; case hy => (first | (simp; done) | (simp; omega))) | fail))
    have rb : W.heap[w.heap.size + 1]? = some (.cells #[.int .u64 (hiB f2), .int .u64 (loB f2), .bool s1] 104) := by rw [hW]; exact (by repeat (first | (refine heap_at _ _ _ ?hx; case hx => (first | (simp; done) | (simp; omega))) | (refine heap_past _ _ _ ?hy ?_; case hy => (first | (simp; done) | (simp; omega))) | fail))
    have rr : W.heap[w.heap.size + 2]? = some (.cells #[.int .u64 0, .int .u64 0, .bool false] 104) := by rw [hW]; exact (by repeat (first | (refine heap_at _ _ _ ?hx; case hx => (first | (simp; done) | (simp; omega))) | (refine heap_past _ _ _ ?hy ?_; case hy => (first | (simp; done) | (simp; omega))) | fail))
    have HW : Hid (Ok w0 W) := by rw [hW]; exact (by repeat (first | exact hok | refine Ok.alloc ?_ _ | refine Ok.draws ?_ _ | fail))
    rw [← hW]
    clear hW hok
    have HR : Hid _ := rr
    obtain ⟨a0, a1, a2, _⟩ := row3_facts ra
    obtain ⟨b0, b1, b2, _⟩ := row3_facts rb
    have z0 := lt_row ra
    have z1 := lt_row rb
    clear ra rb rr
    have bz : Ok W W := Ok.refl _
    have n1 : ¬ w.heap.size + 1 + 1 = w.heap.size := by omega
    have n2 : ¬ w.heap.size + 1 + 1 = w.heap.size + 1 := by omega
    go_region_held3 (fun w' => w'.cell? ⟨w.heap.size, 0, none⟩ = some (.int .u64 (hiB f1)) ∧ w'.cell? ⟨w.heap.size, 1, none⟩ = some (.int .u64 (loB f1)) ∧ w'.cell? ⟨w.heap.size, 2, none⟩ = some (.bool s1) ∧ w'.cell? ⟨w.heap.size + 1, 0, none⟩ = some (.int .u64 (hiB f2)) ∧ w'.cell? ⟨w.heap.size + 1, 1, none⟩ = some (.int .u64 (loB f2))) (go_keep)
      (first
      | (go_at_call 129; refine (bminus_raw _ _ _ _ W _ (by repeat (first | assumption | refine Ok.alloc ?_ _ | refine Below.drew ?_))).mono ?_; rintro e w' ⟨rfl, hb⟩; have q0 := Ok.cell hb z0 a0; have q1 := Ok.cell hb z0 a1; have q2 := Ok.cell hb z0 a2; have q3 := Ok.cell hb z1 b0; have q4 := Ok.cell hb z1 b1; obtain ⟨c0, c1, c2, c3, c4, c5⟩ := row3_facts (Ok.row' hb HR.out))
      | fail)
    have HR2 : Hid _ := Ok.row' hb HR.out
    have HB2 : Hid (Ok w0 w') := HW.out.step hb
    go_wp2_with fail
    (try simp only [Exit.inBlock, Exit.then])
    refine bodyPost_ret (results_cell_row rfl _ _ (w.heap.size + 2) 104 #[_, _, _] (0, 0) _ rfl (row_set3 HR2.out _ _ _) Tryz.underlying104 rfl infoIn) rfl ?_
    rw [E.out.1, E.out.2, ← HX.out.1, ← HX.out.2]
    exact ⟨rfl, ((HB2.out.set (show w0.heap.size ≤ w.heap.size + 2 by omega) _).set (show w0.heap.size ≤ w.heap.size + 2 by omega) _).set (show w0.heap.size ≤ w.heap.size + 2 by omega) _⟩
  · have hs1 : (s1 == s2) = false := by simp [hs]
    have hs2 : s2 = !s1 := by cases s1 <;> cases s2 <;> simp at hs ⊢
    unfold iv
    go_enter Tryz.func136, Tryz.ntmps136
    go_wp2_with fail
    obtain ⟨W, hW⟩ : ∃ W, W = ((w.alloc (.cells #[.int .u64 (hiB f1), .int .u64 (loB f1), .bool s1] 104)).alloc (.cells #[.int .u64 (hiB f2), .int .u64 (loB f2), .bool s1] 104)).alloc (.cells #[.int .u64 0, .int .u64 0, .bool false] 104) := ⟨_, rfl⟩
    have ra : W.heap[w.heap.size]? = some (.cells #[.int .u64 (hiB f1), .int .u64 (loB f1), .bool s1] 104) := by rw [hW]; exact (by repeat (first | (refine heap_at _ _ _ ?hx; case hx => (first | (simp; done) | (simp; omega))) | (refine heap_past _ _ _ ?hy ?_; case hy => (first | (simp; done) | (simp; omega))) | fail))
    have rb : W.heap[w.heap.size + 1]? = some (.cells #[.int .u64 (hiB f2), .int .u64 (loB f2), .bool s1] 104) := by rw [hW]; exact (by repeat (first | (refine heap_at _ _ _ ?hx; case hx => (first | (simp; done) | (simp; omega))) | (refine heap_past _ _ _ ?hy ?_; case hy => (first | (simp; done) | (simp; omega))) | fail))
    have rr : W.heap[w.heap.size + 2]? = some (.cells #[.int .u64 0, .int .u64 0, .bool false] 104) := by rw [hW]; exact (by repeat (first | (refine heap_at _ _ _ ?hx; case hx => (first | (simp; done) | (simp; omega))) | (refine heap_past _ _ _ ?hy ?_; case hy => (first | (simp; done) | (simp; omega))) | fail))
    have HW : Hid (Ok w0 W) := by rw [hW]; exact (by repeat (first | exact hok | refine Ok.alloc ?_ _ | refine Ok.draws ?_ _ | fail))
    rw [← hW]
    clear hW hok
    have HR : Hid _ := rr
    have HR0 : Hid _ := And.intro ra (And.intro rb rr)
    clear ra rb rr HR
    refine (bless_any f1 f2 W W (Ok.refl _)).mono ?_
    rintro e w1 ⟨rfl, hb1⟩
    have HR : Hid _ := Ok.row' hb1 HR0.out.2.2
    have HB1 : Hid (Ok w0 w1) := HW.out.step hb1
    obtain ⟨a0, a1, a2, _⟩ := row3_facts (Ok.row' hb1 HR0.out.1)
    obtain ⟨b0, b1, b2, _⟩ := row3_facts (Ok.row' hb1 HR0.out.2.1)
    have z0 := lt_row (Ok.row' hb1 HR0.out.1)
    have z1 := lt_row (Ok.row' hb1 HR0.out.2.1)
    obtain ⟨c0, c1, c2, c3, c4, c5⟩ := row3_facts HR.out
    by_cases hl : f1 < f2
    · have E : Hid (sumF f1 s1 f2 s2 = subB f2 f1 ∧ sumS f1 s1 f2 s2 = (!s1)) := by
        refine ⟨?_, ?_⟩
        · unfold sumF; rw [if_neg hs, if_pos hl, subB_le HB.out.2 (by omega)]
        · unfold sumS; rw [if_neg hs, if_pos hl]
      rw [decide_eq_true hl]
      clear hl hs hs1 hs2
      go_wp2_with fail
      have bz : Ok w1 w1 := Ok.refl _
      have n1 : ¬ w.heap.size + 1 + 1 = w.heap.size := by omega
      have n2 : ¬ w.heap.size + 1 + 1 = w.heap.size + 1 := by omega
      go_region_held3 (fun w' => w'.cell? ⟨w.heap.size, 0, none⟩ = some (.int .u64 (hiB f1)) ∧ w'.cell? ⟨w.heap.size, 1, none⟩ = some (.int .u64 (loB f1)) ∧ w'.cell? ⟨w.heap.size, 2, none⟩ = some (.bool s1) ∧ w'.cell? ⟨w.heap.size + 1, 0, none⟩ = some (.int .u64 (hiB f2)) ∧ w'.cell? ⟨w.heap.size + 1, 1, none⟩ = some (.int .u64 (loB f2))) (go_keep)
        (first
        | (go_at_call 129; refine (bminus_any f2 f1 HB.out.2 HB.out.1 w1 _ (by repeat (first | assumption | refine Ok.alloc ?_ _ | refine Below.drew ?_))).mono ?_; rintro e w' ⟨rfl, hb⟩; unfold bv; have q0 := Ok.cell hb z0 a0; have q1 := Ok.cell hb z0 a1; have q2 := Ok.cell hb z0 a2; have q3 := Ok.cell hb z1 b0; have q4 := Ok.cell hb z1 b1; obtain ⟨c0, c1, c2, c3, c4, c5⟩ := row3_facts (Ok.row' hb HR.out))
        | fail)
      have HR3 : Hid _ := Ok.row' hb HR.out
      have HB2 : Hid (Ok w0 w') := Ok.step HB1.out hb
      go_wp2_with fail
      (try simp only [Exit.inBlock, Exit.then])
      refine bodyPost_ret (results_cell_row rfl _ _ (w.heap.size + 2) 104 #[_, _, _] (0, 0) _ rfl (row_set3 HR3.out _ _ _) Tryz.underlying104 rfl infoIn) rfl ?_
      rw [E.out.1, E.out.2]
      exact ⟨rfl, ((HB2.out.set (show w0.heap.size ≤ w.heap.size + 2 by omega) _).set (show w0.heap.size ≤ w.heap.size + 2 by omega) _).set (show w0.heap.size ≤ w.heap.size + 2 by omega) _⟩
    · have E : Hid (sumF f1 s1 f2 s2 = subB f1 f2 ∧ sumS f1 s1 f2 s2 = (s1)) := by
        refine ⟨?_, ?_⟩
        · unfold sumF; rw [if_neg hs, if_neg hl, subB_le HB.out.1 (by omega)]
        · unfold sumS; rw [if_neg hs, if_neg hl]
      rw [decide_eq_false hl]
      clear hl hs hs1 hs2
      go_wp2_with fail
      have bz : Ok w1 w1 := Ok.refl _
      have n1 : ¬ w.heap.size + 1 + 1 = w.heap.size := by omega
      have n2 : ¬ w.heap.size + 1 + 1 = w.heap.size + 1 := by omega
      go_region_held3 (fun w' => w'.cell? ⟨w.heap.size, 0, none⟩ = some (.int .u64 (hiB f1)) ∧ w'.cell? ⟨w.heap.size, 1, none⟩ = some (.int .u64 (loB f1)) ∧ w'.cell? ⟨w.heap.size, 2, none⟩ = some (.bool s1) ∧ w'.cell? ⟨w.heap.size + 1, 0, none⟩ = some (.int .u64 (hiB f2)) ∧ w'.cell? ⟨w.heap.size + 1, 1, none⟩ = some (.int .u64 (loB f2))) (go_keep)
        (first
        | (go_at_call 129; refine (bminus_any f1 f2 HB.out.1 HB.out.2 w1 _ (by repeat (first | assumption | refine Ok.alloc ?_ _ | refine Below.drew ?_))).mono ?_; rintro e w' ⟨rfl, hb⟩; unfold bv; have q0 := Ok.cell hb z0 a0; have q1 := Ok.cell hb z0 a1; have q2 := Ok.cell hb z0 a2; have q3 := Ok.cell hb z1 b0; have q4 := Ok.cell hb z1 b1; obtain ⟨c0, c1, c2, c3, c4, c5⟩ := row3_facts (Ok.row' hb HR.out))
        | fail)
      have HR3 : Hid _ := Ok.row' hb HR.out
      have HB2 : Hid (Ok w0 w') := Ok.step HB1.out hb
      go_wp2_with fail
      (try simp only [Exit.inBlock, Exit.then])
      refine bodyPost_ret (results_cell_row rfl _ _ (w.heap.size + 2) 104 #[_, _, _] (0, 0) _ rfl (row_set3 HR3.out _ _ _) Tryz.underlying104 rfl infoIn) rfl ?_
      rw [E.out.1, E.out.2]
      exact ⟨rfl, ((HB2.out.set (show w0.heap.size ≤ w.heap.size + 2 by omega) _).set (show w0.heap.size ≤ w.heap.size + 2 by omega) _).set (show w0.heap.size ≤ w.heap.size + 2 by omega) _⟩
end Go.Proofs.YtbclkkpddomoiaaGreat
