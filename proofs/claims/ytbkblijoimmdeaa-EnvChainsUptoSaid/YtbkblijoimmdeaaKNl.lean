import Derived.Test.YtbkblijoimmdeaaKJa
import Derived.Test.YtbkblijoimmdeaaKNfm
import Derived.Test.YtbkblijoimmdeaaKNk
set_option linter.unusedVariables false
set_option linter.unusedSimpArgs false
set_option linter.unnecessarySimpa false
/- Nl -/
namespace Go.Proofs.Ytbkblijoimmdeaa
open Go.RowKit
theorem leqN_some {x y : Int × Int × Nat × Nat × Bool} (nx : NormN x) (hx : x.2.2.2.2 = false) (hy : y.2.2.2.2 = false) : leqN x y = (leqI x.1 x.2.1 y.1 y.2.1 && leqC x.2.2.1 x.2.2.2.1 y.2.2.1 y.2.2.2.1) := by
  have s := norm_some nx hx
  unfold leqN leqI
  rw [if_neg (by rw [hx, hy]; simp), decide_eq_false (show ¬ x.2.1 < x.1 by omega), Bool.false_or, ← Bool.decide_and]
theorem rows_put2 {w0 W w1 : World} {g k : Nat} {p0 p1 p2 p3 p4 q0 q1 q2 q3 q4 : Value} {t u : TypeId} (hgk : g ≠ k) (ra : W.heap[g]? = some (.cells #[p0, p1, p2, p3, p4] t (0, 0))) (rb : W.heap[k]? = some (.cells #[q0, q1, q2, q3, q4] u (0, 0))) (hb : Ok W w1) (h0 : Ok w0 W) (hg : w0.heap.size ≤ g) (hk : w0.heap.size ≤ k) (x0 x1 x2 x3 x4 y0 y1 y2 y3 y4 : Value) :
    Hid (Ok w0 ((((((((((w1.setCell ⟨g, 0, none⟩ x0).setCell ⟨g, 1, none⟩ x1).setCell ⟨g, 2, none⟩ x2).setCell ⟨g, 3, none⟩ x3).setCell ⟨g, 4, none⟩ x4).setCell ⟨k, 0, none⟩ y0).setCell ⟨k, 1, none⟩ y1).setCell ⟨k, 2, none⟩ y2).setCell ⟨k, 3, none⟩ y3).setCell ⟨k, 4, none⟩ y4) ∧
    ((((((((((w1.setCell ⟨g, 0, none⟩ x0).setCell ⟨g, 1, none⟩ x1).setCell ⟨g, 2, none⟩ x2).setCell ⟨g, 3, none⟩ x3).setCell ⟨g, 4, none⟩ x4).setCell ⟨k, 0, none⟩ y0).setCell ⟨k, 1, none⟩ y1).setCell ⟨k, 2, none⟩ y2).setCell ⟨k, 3, none⟩ y3).setCell ⟨k, 4, none⟩ y4).heap[g]? = some (.cells #[x0, x1, x2, x3, x4] t (0, 0)) ∧
    ((((((((((w1.setCell ⟨g, 0, none⟩ x0).setCell ⟨g, 1, none⟩ x1).setCell ⟨g, 2, none⟩ x2).setCell ⟨g, 3, none⟩ x3).setCell ⟨g, 4, none⟩ x4).setCell ⟨k, 0, none⟩ y0).setCell ⟨k, 1, none⟩ y1).setCell ⟨k, 2, none⟩ y2).setCell ⟨k, 3, none⟩ y3).setCell ⟨k, 4, none⟩ y4).heap[k]? = some (.cells #[y0, y1, y2, y3, y4] u (0, 0)) ∧ (∀ (h : Nat) (o : Obj), h ≠ g → h ≠ k → W.heap[h]? = some o → ((((((((((w1.setCell ⟨g, 0, none⟩ x0).setCell ⟨g, 1, none⟩ x1).setCell ⟨g, 2, none⟩ x2).setCell ⟨g, 3, none⟩ x3).setCell ⟨g, 4, none⟩ x4).setCell ⟨k, 0, none⟩ y0).setCell ⟨k, 1, none⟩ y1).setCell ⟨k, 2, none⟩ y2).setCell ⟨k, 3, none⟩ y3).setCell ⟨k, 4, none⟩ y4).heap[h]? = some o)) := by
  have s1 := row_set5 (Ok.row' hb ra) x0 x1 x2 x3 x4
  have s2 : (((((w1.setCell ⟨g, 0, none⟩ x0).setCell ⟨g, 1, none⟩ x1).setCell ⟨g, 2, none⟩ x2).setCell ⟨g, 3, none⟩ x3).setCell ⟨g, 4, none⟩ x4).heap[k]? = some (.cells #[q0, q1, q2, q3, q4] u (0, 0)) := by
    rw [heap_setCell_other _ _ _ _ (Ne.symm hgk), heap_setCell_other _ _ _ _ (Ne.symm hgk), heap_setCell_other _ _ _ _ (Ne.symm hgk), heap_setCell_other _ _ _ _ (Ne.symm hgk), heap_setCell_other _ _ _ _ (Ne.symm hgk)]
    exact Ok.row' hb rb
  refine ⟨?_, ?_, row_set5 s2 y0 y1 y2 y3 y4, ?_⟩
  · exact Ok.set (Ok.set (Ok.set (Ok.set (Ok.set (Ok.set (Ok.set (Ok.set (Ok.set (Ok.set (h0.step hb) hg _) hg _) hg _) hg _) hg _) hk _) hk _) hk _) hk _) hk _
  · rw [heap_setCell_other _ _ _ _ hgk, heap_setCell_other _ _ _ _ hgk, heap_setCell_other _ _ _ _ hgk, heap_setCell_other _ _ _ _ hgk, heap_setCell_other _ _ _ _ hgk]
    exact s1
  · intro h o h1 h2 ho
    rw [heap_setCell_other _ _ _ _ h2, heap_setCell_other _ _ _ _ h2, heap_setCell_other _ _ _ _ h2, heap_setCell_other _ _ _ _ h2, heap_setCell_other _ _ _ _ h2, heap_setCell_other _ _ _ _ h1, heap_setCell_other _ _ _ _ h1, heap_setCell_other _ _ _ _ h1, heap_setCell_other _ _ _ _ h1, heap_setCell_other _ _ _ _ h1]
    exact Ok.row' hb ho
def NPN (F : Act) (R : World → Prop) : Exit → Act → World → Prop
  | .normal, a, w => a = F ∧ R w
  | _, _, _ => False
theorem wp_cutN {P : Program} {c : Code} {Q : Exit → Act → World → Prop} {a : Act} {w : World} {F : Act} (R : World → Prop) (h1 : c.wp P (NPN F R) a w) (h2 : ∀ w', R w' → Q .normal F w') : c.wp P Q a w :=
  Code.wp_mono (fun e a w h => by cases e <;> first | exact (h.1 ▸ h2 _ h.2) | exact (h : False).elim) h1

set_option maxRecDepth 100000 in
set_option maxHeartbeats 2000000 in
theorem nnorm_any (a : Int × Int × Nat × Nat × Bool) (ha : RawN a) (w0 w : World) (hok : Ok w0 w) :
    Calls Try.prog 43 #[nv a] w fun e w' => e = .returned (nv (normN a)) ∧ Ok w0 w' := by
  have hle := hok.le
  obtain ⟨l, h, M, R, B⟩ := a
  have HU : Hid _ := ha
  clear ha
  generalize hans : normN (l, h, M, R, B) = ans
  have HS : Hid _ := hans
  clear hans
  unfold nv
  simp only
  go_enter Try.func43, Try.ntmps43
  cases B
  · have HA : Hid (ans = makeN l h M R) := by unfold Hid; rw [← HS.out]; rfl
    clear HS
    go_wp2_with fail
    obtain ⟨W, hW⟩ : ∃ W, W = ((w).alloc (.cells #[.bool false, .int .i64 l, .int .i64 h, .int .u64 (M : Int), .int .u64 (R : Int)] 46)).alloc (.cells #[.bool false, .int .i64 0, .int .i64 0, .int .u64 0, .int .u64 0] 46) := ⟨_, rfl⟩
    have rz : Hid (W.heap[w.heap.size + 1]? = some (.cells #[.bool false, .int .i64 0, .int .i64 0, .int .u64 0, .int .u64 0] 46)) := by unfold Hid; rw [hW]; exact (by repeat (first | (refine heap_at _ _ _ ?hx; case hx => (first | (simp; done) | (simp; omega))) | (refine heap_past _ _ _ ?hy ?_; case hy => (first | (simp; done) | (simp; omega))) | fail))
    have HW : Hid (Ok w0 W) := by unfold Hid; rw [hW]; exact (by repeat (first | exact hok | refine Ok.alloc ?_ _ | refine Ok.draws ?_ _ | fail))
    rw [← hW]
    clear hW
    refine (nmake_any l h M R HU.out.1 HU.out.2.1 HU.out.2.2.1 HU.out.2.2.2 W _ (by repeat (first | exact Ok.refl _ | refine Ok.alloc ?_ _ | refine Ok.draws ?_ _ | fail))).mono ?_
    rintro e w1 ⟨rfl, hb⟩
    have hr : Hid _ := Ok.row' hb rz.out
    obtain ⟨k0, k1, k2, k3, k4, k5, k6, k7, k8, k9⟩ := row5_facts hr.out
    rw [← HA.out]
    unfold nv
    go_wp2_with fail
    (try simp only [Exit.inBlock, Exit.then]); refine bodyPost_ret (results_cell_row rfl _ _ (w.heap.size + 1) 46 #[_, _, _, _, _] (0, 0) _ rfl (row_set5 hr.out _ _ _ _ _) Try.underlying46 rfl infoN) rfl ?_
    exact ⟨rfl, Ok.set (Ok.set (Ok.set (Ok.set (Ok.set (HW.out.step hb) (show w0.heap.size ≤ w.heap.size + 1 by omega) _) (show w0.heap.size ≤ w.heap.size + 1 by omega) _) (show w0.heap.size ≤ w.heap.size + 1 by omega) _) (show w0.heap.size ≤ w.heap.size + 1 by omega) _) (show w0.heap.size ≤ w.heap.size + 1 by omega) _⟩
  · have HA : Hid (ans = botN) := by unfold Hid; rw [← HS.out]; rfl
    clear HS
    go_wp2_with fail
    obtain ⟨W, hW⟩ : ∃ W, W = ((w).alloc (.cells #[.bool true, .int .i64 l, .int .i64 h, .int .u64 (M : Int), .int .u64 (R : Int)] 46)).alloc (.cells #[.bool false, .int .i64 0, .int .i64 0, .int .u64 0, .int .u64 0] 46) := ⟨_, rfl⟩
    have rz : Hid (W.heap[w.heap.size + 1]? = some (.cells #[.bool false, .int .i64 0, .int .i64 0, .int .u64 0, .int .u64 0] 46)) := by unfold Hid; rw [hW]; exact (by repeat (first | (refine heap_at _ _ _ ?hx; case hx => (first | (simp; done) | (simp; omega))) | (refine heap_past _ _ _ ?hy ?_; case hy => (first | (simp; done) | (simp; omega))) | fail))
    have HW : Hid (Ok w0 W) := by unfold Hid; rw [hW]; exact (by repeat (first | exact hok | refine Ok.alloc ?_ _ | refine Ok.draws ?_ _ | fail))
    rw [← hW]
    clear hW
    refine (nbot_any W _ (by repeat (first | exact Ok.refl _ | refine Ok.alloc ?_ _ | refine Ok.draws ?_ _ | fail))).mono ?_
    rintro e w1 ⟨rfl, hb⟩
    have hr : Hid _ := Ok.row' hb rz.out
    obtain ⟨k0, k1, k2, k3, k4, k5, k6, k7, k8, k9⟩ := row5_facts hr.out
    unfold nv botN
    go_wp2_with fail
    (try simp only [Exit.inBlock, Exit.then]); refine bodyPost_ret (results_cell_row rfl _ _ (w.heap.size + 1) 46 #[_, _, _, _, _] (0, 0) _ rfl (row_set5 hr.out _ _ _ _ _) Try.underlying46 rfl infoN) rfl ?_
    exact ⟨(by rw [HA.out]; rfl), Ok.set (Ok.set (Ok.set (Ok.set (Ok.set (HW.out.step hb) (show w0.heap.size ≤ w.heap.size + 1 by omega) _) (show w0.heap.size ≤ w.heap.size + 1 by omega) _) (show w0.heap.size ≤ w.heap.size + 1 by omega) _) (show w0.heap.size ≤ w.heap.size + 1 by omega) _) (show w0.heap.size ≤ w.heap.size + 1 by omega) _⟩
set_option maxRecDepth 100000 in
set_option maxHeartbeats 2000000 in
theorem nrange_any (l h : Int) (hl : In64 l) (hh : In64 h) (w0 w : World) (hok : Ok w0 w) :
    Calls Try.prog 17 #[.int .i64 l, .int .i64 h] w fun e w' => e = .returned (nv (makeN l h 1 0)) ∧ Ok w0 w' := by
  have hle := hok.le
  have HU : Hid _ := And.intro hl hh
  clear hl hh
  go_enter Try.func17, Try.ntmps17
  go_wp2_with fail
  obtain ⟨W, hW⟩ : ∃ W, W = (w).alloc (.cells #[.bool false, .int .i64 0, .int .i64 0, .int .u64 0, .int .u64 0] 46) := ⟨_, rfl⟩
  have rz : Hid (W.heap[w.heap.size]? = some (.cells #[.bool false, .int .i64 0, .int .i64 0, .int .u64 0, .int .u64 0] 46)) := by unfold Hid; rw [hW]; exact (by repeat (first | (refine heap_at _ _ _ ?hx; case hx => (first | (simp; done) | (simp; omega))) | (refine heap_past _ _ _ ?hy ?_; case hy => (first | (simp; done) | (simp; omega))) | fail))
  have HW : Hid (Ok w0 W) := by unfold Hid; rw [hW]; exact (by repeat (first | exact hok | refine Ok.alloc ?_ _ | refine Ok.draws ?_ _ | fail))
  rw [← hW]
  clear hW
  refine (every_any W _ (by repeat (first | exact Ok.refl _ | refine Ok.alloc ?_ _ | refine Ok.draws ?_ _ | fail))).mono ?_
  rintro e w1 ⟨rfl, hb⟩
  replace rz : Hid _ := Ok.row' hb rz.out
  have Hw1 : Hid (Ok w0 w1) := HW.out.step hb
  clear hb
  unfold cv
  go_wp2_with fail
  refine (nmake_any l h 1 0 HU.out.1 HU.out.2 u_one u_zero w1 _ (by repeat (first | exact Ok.refl _ | refine Ok.alloc ?_ _ | refine Ok.draws ?_ _ | fail))).mono ?_
  rintro e w2 ⟨rfl, hb⟩
  have hr : Hid _ := Ok.row' hb rz.out
  obtain ⟨k0, k1, k2, k3, k4, k5, k6, k7, k8, k9⟩ := row5_facts hr.out
  unfold nv
  go_wp2_with fail
  (try simp only [Exit.inBlock, Exit.then]); refine bodyPost_ret (results_cell_row rfl _ _ (w.heap.size) 46 #[_, _, _, _, _] (0, 0) _ rfl (row_set5 hr.out _ _ _ _ _) Try.underlying46 rfl infoN) rfl ?_
  exact ⟨rfl, Ok.set (Ok.set (Ok.set (Ok.set (Ok.set (Hw1.out.step hb) (show w0.heap.size ≤ w.heap.size by omega) _) (show w0.heap.size ≤ w.heap.size by omega) _) (show w0.heap.size ≤ w.heap.size by omega) _) (show w0.heap.size ≤ w.heap.size by omega) _) (show w0.heap.size ≤ w.heap.size by omega) _⟩
set_option maxRecDepth 100000 in
set_option maxHeartbeats 2000000 in
theorem nhas_any (a : Int × Int × Nat × Nat × Bool) (v : Int) (ha : RawN a) (w0 w : World) (hok : Ok w0 w) :
    Calls Try.prog 18 #[nv a, .int .i64 v] w fun e w' => e = .returned (.bool (insN a v)) ∧ Ok w0 w' := by
  have hle := hok.le
  obtain ⟨l, h, M, R, B⟩ := a
  have HU : Hid _ := ha
  clear ha
  generalize hans : insN (l, h, M, R, B) v = ans
  have HS : Hid _ := hans
  clear hans
  unfold nv
  simp only
  go_enter Try.func18, Try.ntmps18
  cases B
  · obtain ⟨x, hx⟩ : ∃ x, x = hasI l h v := ⟨_, rfl⟩
    have HA : Hid (ans = (x && hasC M R v)) := by unfold Hid; rw [← HS.out, hx]; rfl
    clear HS
    have HX : Hid _ := hx
    clear hx
    go_wp2_with fail
    obtain ⟨W, hW⟩ : ∃ W, W = (w).alloc (.cells #[.bool false, .int .i64 l, .int .i64 h, .int .u64 (M : Int), .int .u64 (R : Int)] 46) := ⟨_, rfl⟩
    have ra : Hid (W.heap[w.heap.size]? = some (.cells #[.bool false, .int .i64 l, .int .i64 h, .int .u64 (M : Int), .int .u64 (R : Int)] 46)) := by unfold Hid; rw [hW]; exact (by repeat (first | (refine heap_at _ _ _ ?hx; case hx => (first | (simp; done) | (simp; omega))) | (refine heap_past _ _ _ ?hy ?_; case hy => (first | (simp; done) | (simp; omega))) | fail))
    have HW : Hid (Ok w0 W) := by unfold Hid; rw [hW]; exact (by repeat (first | exact hok | refine Ok.alloc ?_ _ | refine Ok.draws ?_ _ | fail))
    rw [← hW]
    clear hW
    refine (Jphas_any l h v W _ (by repeat (first | exact Ok.refl _ | refine Ok.alloc ?_ _ | refine Ok.draws ?_ _ | fail))).mono ?_
    rintro e w1 ⟨rfl, hb⟩
    replace ra : Hid _ := Ok.row' hb ra.out
    have Hw1 : Hid (Ok w0 w1) := HW.out.step hb
    clear hb
    rw [← HX.out]
    obtain ⟨a0, a1, a2, a3, a4, a5, a6, a7, a8, a9⟩ := row5_facts ra.out
    cases x
    · go_wp2_with fail
      go_ret
      exact ⟨by rw [HA.out]; rfl, Hw1.out⟩
    · go_wp2_with fail
      refine (phas_any M R v HU.out.2.2.1 HU.out.2.2.2 w1 _ (by repeat (first | exact Ok.refl _ | refine Ok.alloc ?_ _ | refine Ok.draws ?_ _ | fail))).mono ?_
      rintro e w2 ⟨rfl, hb⟩
      have Hw2 : Hid (Ok w0 w2) := Hw1.out.step hb
      clear hb
      go_wp2_with fail
      go_ret
      exact ⟨by rw [HA.out]; rfl, Hw2.out⟩
  · have HA : Hid (ans = false) := by unfold Hid; rw [← HS.out]; rfl
    clear HS
    go_wp2_with fail
    go_ret
    exact ⟨by rw [HA.out]; rfl, hok.alloc _⟩
set_option maxRecDepth 100000 in
set_option maxHeartbeats 2000000 in
theorem nleq_any (a b : Int × Int × Nat × Nat × Bool) (ha : RawN a) (hb : RawN b) (w0 w : World) (hok : Ok w0 w) :
    Calls Try.prog 26 #[nv a, nv b] w fun e w' => e = .returned (.bool (lqN a b)) ∧ Ok w0 w' := by
  have hle := hok.le
  have HU : Hid _ := And.intro ha hb
  clear ha hb
  obtain ⟨x, hx⟩ : ∃ x, x = normN a := ⟨_, rfl⟩
  obtain ⟨y, hy⟩ : ∃ x, x = normN b := ⟨_, rfl⟩
  have HS : Hid (lqN a b = leqN x y) := by unfold Hid lqN; rw [hx, hy]
  have RX : Hid (RawN x ∧ RawN y) := by rw [hx, hy]; exact ⟨normN_raw HU.out.1, normN_raw HU.out.2⟩
  have NX : Hid (NormN x ∧ NormN y) := by rw [hx, hy]; exact ⟨normN_norm HU.out.1, normN_norm HU.out.2⟩
  have HX : Hid _ := hx
  have HY : Hid _ := hy
  clear hx hy
  unfold nv
  go_enter Try.func26, Try.ntmps26
  go_wp2_with fail
  obtain ⟨W, hW⟩ : ∃ W, W = ((w).alloc (.cells #[.bool a.2.2.2.2, .int .i64 a.1, .int .i64 a.2.1, .int .u64 (a.2.2.1 : Int), .int .u64 (a.2.2.2.1 : Int)] 46)).alloc (.cells #[.bool b.2.2.2.2, .int .i64 b.1, .int .i64 b.2.1, .int .u64 (b.2.2.1 : Int), .int .u64 (b.2.2.2.1 : Int)] 46) := ⟨_, rfl⟩
  have ra : Hid (W.heap[w.heap.size]? = some (.cells #[.bool a.2.2.2.2, .int .i64 a.1, .int .i64 a.2.1, .int .u64 (a.2.2.1 : Int), .int .u64 (a.2.2.2.1 : Int)] 46)) := by unfold Hid; rw [hW]; exact (by repeat (first | (refine heap_at _ _ _ ?hx; case hx => (first | (simp; done) | (simp; omega))) | (refine heap_past _ _ _ ?hy ?_; case hy => (first | (simp; done) | (simp; omega))) | fail))
  have rb : Hid (W.heap[w.heap.size + 1]? = some (.cells #[.bool b.2.2.2.2, .int .i64 b.1, .int .i64 b.2.1, .int .u64 (b.2.2.1 : Int), .int .u64 (b.2.2.2.1 : Int)] 46)) := by unfold Hid; rw [hW]; exact (by repeat (first | (refine heap_at _ _ _ ?hx; case hx => (first | (simp; done) | (simp; omega))) | (refine heap_past _ _ _ ?hy ?_; case hy => (first | (simp; done) | (simp; omega))) | fail))
  have HW : Hid (Ok w0 W) := by unfold Hid; rw [hW]; exact (by repeat (first | exact hok | refine Ok.alloc ?_ _ | refine Ok.draws ?_ _ | fail))
  rw [← hW]
  clear hW
  apply wp_cutN (fun w1 => Hid (Ok w0 w1 ∧ w1.heap[w.heap.size]? = some (.cells #[.bool x.2.2.2.2, .int .i64 x.1, .int .i64 x.2.1, .int .u64 (x.2.2.1 : Int), .int .u64 (x.2.2.2.1 : Int)] 46) ∧ w1.heap[w.heap.size + 1]? = some (.cells #[.bool y.2.2.2.2, .int .i64 y.1, .int .i64 y.2.1, .int .u64 (y.2.2.1 : Int), .int .u64 (y.2.2.2.1 : Int)] 46) ∧ (∀ (h : Nat) (o : Obj), h ≠ w.heap.size → h ≠ w.heap.size + 1 → W.heap[h]? = some o → w1.heap[h]? = some o)))
  case h1 =>
    obtain ⟨a0, a1, a2, a3, a4, a5, a6, a7, a8, a9⟩ := row5_facts ra.out
    obtain ⟨b0, b1, b2, b3, b4, b5, b6, b7, b8, b9⟩ := row5_facts rb.out
    have bz : Ok W W := Ok.refl _
    go_region_with (go_at_call 43; refine (nnorm_any _ (by first | exact HU.out.1 | exact HU.out.2) W _ (by first | assumption | exact Below.drew (by assumption))).mono ?_; rintro e w1 ⟨rfl, hb⟩; (first | rw [← HX.out] | rw [← HY.out]); unfold nv; obtain ⟨a0, a1, a2, a3, a4, a5, a6, a7, a8, a9⟩ := row5_facts (Ok.row' hb ra.out); obtain ⟨b0, b1, b2, b3, b4, b5, b6, b7, b8, b9⟩ := row5_facts (Ok.row' hb rb.out))
    all_goals exact ⟨rfl, rows_put2 (by omega) ra.out rb.out hb HW.out (by omega) (by omega) _ _ _ _ _ _ _ _ _ _⟩
  case h2 =>
    rintro Z H
    obtain ⟨HZ, raz, rbz, keep⟩ := H.out
    replace HZ : Hid (Ok w0 Z) := HZ
    replace raz : Hid _ := raz
    replace rbz : Hid _ := rbz
    clear H ra rb keep
    obtain ⟨a0, a1, a2, a3, a4, a5, a6, a7, a8, a9⟩ := row5_facts raz.out
    obtain ⟨b0, b1, b2, b3, b4, b5, b6, b7, b8, b9⟩ := row5_facts rbz.out
    cases hxb : x.2.2.2.2
    · rw [hxb] at a0
      cases hyb : y.2.2.2.2
      · rw [hyb] at b0
        have HA : Hid (leqN x y = (leqI x.1 x.2.1 y.1 y.2.1 && leqC x.2.2.1 x.2.2.2.1 y.2.2.1 y.2.2.2.1)) := leqN_some NX.out.1 hxb hyb
        obtain ⟨p, hp⟩ : ∃ p, p = leqI x.1 x.2.1 y.1 y.2.1 := ⟨_, rfl⟩
        rw [← hp] at HA
        have HP : Hid _ := hp
        clear hp
        go_wp2_with fail
        refine (Jpleq_any x.1 x.2.1 y.1 y.2.1 Z _ (by repeat (first | exact Ok.refl _ | refine Ok.alloc ?_ _ | refine Ok.draws ?_ _ | fail))).mono ?_
        rintro e z1 ⟨rfl, hb⟩
        replace raz : Hid _ := Ok.row' hb raz.out
        replace rbz : Hid _ := Ok.row' hb rbz.out
        have Hz1 : Hid (Ok w0 z1) := HZ.out.step hb
        clear hb
        rw [← HP.out]
        clear a0 a1 a2 a3 a4 a5 a6 a7 a8 a9 b0 b1 b2 b3 b4 b5 b6 b7 b8 b9
        obtain ⟨a0, a1, a2, a3, a4, a5, a6, a7, a8, a9⟩ := row5_facts raz.out
        obtain ⟨b0, b1, b2, b3, b4, b5, b6, b7, b8, b9⟩ := row5_facts rbz.out
        cases p
        · go_wp2_with fail
          go_ret
          exact ⟨by rw [HS.out, HA.out]; rfl, Hz1.out⟩
        · go_wp2_with fail
          refine (pleq_any x.2.2.1 x.2.2.2.1 y.2.2.1 y.2.2.2.1 RX.out.1.2.2.1 RX.out.1.2.2.2 RX.out.2.2.2.1 RX.out.2.2.2.2 z1 _ (by repeat (first | exact Ok.refl _ | refine Ok.alloc ?_ _ | refine Ok.draws ?_ _ | fail))).mono ?_
          rintro e z2 ⟨rfl, hb⟩
          have Hz2 : Hid (Ok w0 z2) := Hz1.out.step hb
          clear hb
          go_wp2_with fail
          go_ret
          exact ⟨by rw [HS.out, HA.out]; rfl, Hz2.out⟩
      · rw [hyb] at b0
        have HA : Hid (leqN x y = false) := by unfold Hid leqN; rw [if_pos (Or.inr hyb), hxb]
        go_wp2_with fail
        go_ret
        exact ⟨by rw [HS.out, HA.out]; rfl, HZ.out⟩
    · rw [hxb] at a0
      have HA : Hid (leqN x y = true) := by unfold Hid leqN; rw [if_pos (Or.inl hxb), hxb]
      go_wp2_with fail
      go_ret
      exact ⟨by rw [HS.out, HA.out]; rfl, HZ.out⟩
end Go.Proofs.Ytbkblijoimmdeaa
