import Derived.Test.YtgkbegmaffknbabGreatKVc
set_option linter.unusedVariables false
set_option linter.unusedSimpArgs false
set_option linter.unnecessarySimpa false
/- Vd -/
namespace Go.Proofs.YtgkbegmaffknbabGreat
open Go.RowKit Go.Shelf
theorem rows_putr {w0 w1 Z : World} {g k : Nat} {p0 p1 p2 p3 p4 q0 q1 q2 q3 q4 : Value} {t : TypeId} (hgk : g ≠ k) (ra : w1.heap[g]? = some (.cells #[p0, p1, p2, p3, p4] t (0, 0))) (rb : w1.heap[k]? = some (.cells #[q0, q1, q2, q3, q4] t (0, 0))) (h0 : Ok w0 w1) (hg : w0.heap.size ≤ g) (hk : w0.heap.size ≤ k) (x0 x1 x2 x3 x4 y0 y1 y2 y3 y4 : Value) (hZ : Z = ((((((((((w1.setCell ⟨g, 0, none⟩ x0).setCell ⟨g, 1, none⟩ x1).setCell ⟨g, 2, none⟩ x2).setCell ⟨g, 3, none⟩ x3).setCell ⟨g, 4, none⟩ x4).setCell ⟨k, 0, none⟩ y0).setCell ⟨k, 1, none⟩ y1).setCell ⟨k, 2, none⟩ y2).setCell ⟨k, 3, none⟩ y3).setCell ⟨k, 4, none⟩ y4)) :
    Ok w0 Z ∧ Z.heap[g]? = some (.cells #[x0, x1, x2, x3, x4] t (0, 0)) ∧ Z.heap[k]? = some (.cells #[y0, y1, y2, y3, y4] t (0, 0)) := by
  have h := (rows_put2 hgk ra rb (Ok.refl w1) h0 hg hk x0 x1 x2 x3 x4 y0 y1 y2 y3 y4).out
  subst hZ
  exact ⟨h.1, h.2.1, h.2.2.1⟩

set_option maxRecDepth 100000 in
set_option maxHeartbeats 4000000 in
theorem vclo1 (x y : Int × Int × Nat × Nat × Bool) (hx : RawN x) (hy : RawN y) (ga gb : Nat) (w : World) (ra0 : w.heap[ga]? = some (.cells #[.bool x.2.2.2.2, .int .i64 x.1, .int .i64 x.2.1, .int .u64 (x.2.2.1 : Int), .int .u64 (x.2.2.2.1 : Int)] 29)) (rb0 : w.heap[gb]? = some (.cells #[.bool y.2.2.2.2, .int .i64 y.1, .int .i64 y.2.1, .int .u64 (y.2.2.1 : Int), .int .u64 (y.2.2.2.1 : Int)] 29)) :
    Calls Tryz.prog 50 #[.pointer (some ⟨ga, 0, none⟩), .pointer (some ⟨gb, 0, none⟩)] w fun e w' => e = .returned (.tuple #[nv (belN x y.2.1), nv (aboN y x.1)]) ∧ Ok w w' := by
  have HU : Hid (RawN x ∧ RawN y) := ⟨hx, hy⟩
  clear hx hy
  obtain ⟨l, hl⟩ : ∃ t, t = belN x y.2.1 := ⟨_, rfl⟩
  obtain ⟨r, hr⟩ : ∃ t, t = aboN y x.1 := ⟨_, rfl⟩
  rw [← hl, ← hr]
  have HL : Hid _ := hl
  have HR : Hid _ := hr
  clear hl hr
  have ra : Hid _ := ra0
  have rb : Hid _ := rb0
  clear ra0 rb0
  have hla := lt_row ra.out
  have hlb := lt_row rb.out
  have hok := Ok.refl w
  unfold nv
  go_enter Tryz.func50, Tryz.ntmps50
  go_wp2_with fail
  obtain ⟨W, hW⟩ : ∃ W, W = ((w).alloc (.cells #[.bool false, .int .i64 0, .int .i64 0, .int .u64 0, .int .u64 0] 29)).alloc (.cells #[.bool false, .int .i64 0, .int .i64 0, .int .u64 0, .int .u64 0] 29) := ⟨_, rfl⟩
  have rl : Hid (W.heap[w.heap.size]? = some (.cells #[.bool false, .int .i64 0, .int .i64 0, .int .u64 0, .int .u64 0] 29)) := by unfold Hid; rw [hW]; exact (by repeat (first | (refine heap_at _ _ _ ?hx; case hx => (first | (simp; done) | (simp; omega))) | (refine heap_past _ _ _ ?hy ?_; case hy => (first | (simp; done) | (simp; omega))) | fail))
  have rr : Hid (W.heap[w.heap.size + 1]? = some (.cells #[.bool false, .int .i64 0, .int .i64 0, .int .u64 0, .int .u64 0] 29)) := by unfold Hid; rw [hW]; exact (by repeat (first | (refine heap_at _ _ _ ?hx; case hx => (first | (simp; done) | (simp; omega))) | (refine heap_past _ _ _ ?hy ?_; case hy => (first | (simp; done) | (simp; omega))) | fail))
  have HW : Hid (Ok w W) := by unfold Hid; rw [hW]; exact (by repeat (first | exact hok | refine Ok.alloc ?_ _ | refine Ok.draws ?_ _ | fail))
  rw [← hW]
  clear hW
  have hO : Ok w W := HW.out
  replace ra : Hid _ := Ok.row' hO ra.out
  replace rb : Hid _ := Ok.row' hO rb.out
  clear hO
  obtain ⟨gr, egr⟩ : ∃ g, g = w.heap.size + 1 := ⟨_, rfl⟩
  rw [← egr] at rr ⊢
  obtain ⟨gl, egl⟩ : ∃ g, g = w.heap.size := ⟨_, rfl⟩
  rw [← egl] at rl ⊢
  have lgl : w.heap.size ≤ gl := by omega
  have nglgr : ¬ gl = gr := by omega
  have lgr : w.heap.size ≤ gr := by omega
  have ngrgl : ¬ gr = gl := by omega
  clear egl egr
  have ngagl : ¬ ga = gl := by omega
  have ngagr : ¬ ga = gr := by omega
  have ngbgl : ¬ gb = gl := by omega
  have ngbgr : ¬ gb = gr := by omega
  have nglga : ¬ gl = ga := by omega
  have ngrga : ¬ gr = ga := by omega
  have nglgb : ¬ gl = gb := by omega
  have ngrgb : ¬ gr = gb := by omega
  obtain ⟨a0, a1, a2, a3, a4, a5, a6, a7, a8, a9⟩ := row5_facts ra.out
  obtain ⟨b0, b1, b2, b3, b4, b5, b6, b7, b8, b9⟩ := row5_facts rb.out
  obtain ⟨k0, k1, k2, k3, k4, k5, k6, k7, k8, k9⟩ := row5_facts rl.out
  obtain ⟨j0, j1, j2, j3, j4, j5, j6, j7, j8, j9⟩ := row5_facts rr.out
  have za := lt_row ra.out
  have zb := lt_row rb.out
  have bz : Ok W W := Ok.refl _
  go_region_held3 (fun w' => w'.cell? ⟨ga, 0, none⟩ = some (.bool x.2.2.2.2) ∧ w'.cell? ⟨ga, 1, none⟩ = some (.int .i64 x.1) ∧ w'.cell? ⟨ga, 2, none⟩ = some (.int .i64 x.2.1) ∧ w'.cell? ⟨ga, 3, none⟩ = some (.int .u64 (x.2.2.1 : Int)) ∧ w'.cell? ⟨ga, 4, none⟩ = some (.int .u64 (x.2.2.2.1 : Int)) ∧ w'.cell? ⟨gb, 0, none⟩ = some (.bool y.2.2.2.2) ∧ w'.cell? ⟨gb, 1, none⟩ = some (.int .i64 y.1) ∧ w'.cell? ⟨gb, 2, none⟩ = some (.int .i64 y.2.1) ∧ w'.cell? ⟨gb, 3, none⟩ = some (.int .u64 (y.2.2.1 : Int)) ∧ w'.cell? ⟨gb, 4, none⟩ = some (.int .u64 (y.2.2.2.1 : Int))) (go_keep)
    (first
    | (go_at_call 51; refine (vbelow_any x y.2.1 HU.out.1 HU.out.2.2.1 W _ (by repeat (first | assumption | refine Ok.alloc ?_ _ | refine Below.drew ?_))).mono ?_; rintro e w' ⟨rfl, hb⟩; rw [← HL.out]; unfold nv; have q0 := Ok.cell hb za a0; have q1 := Ok.cell hb za a1; have q2 := Ok.cell hb za a2; have q3 := Ok.cell hb za a3; have q4 := Ok.cell hb za a4; have q5 := Ok.cell hb zb b0; have q6 := Ok.cell hb zb b1; have q7 := Ok.cell hb zb b2; have q8 := Ok.cell hb zb b3; have q9 := Ok.cell hb zb b4; obtain ⟨k0, k1, k2, k3, k4, k5, k6, k7, k8, k9⟩ := row5_facts (Ok.row' hb rl.out); obtain ⟨j0, j1, j2, j3, j4, j5, j6, j7, j8, j9⟩ := row5_facts (Ok.row' hb rr.out))
    | (go_at_call 52; refine (vabove_any y x.1 HU.out.2 HU.out.1.1 W _ (by repeat (first | assumption | refine Ok.alloc ?_ _ | refine Below.drew ?_))).mono ?_; rintro e w' ⟨rfl, hb⟩; rw [← HR.out]; unfold nv; have q0 := Ok.cell hb za a0; have q1 := Ok.cell hb za a1; have q2 := Ok.cell hb za a2; have q3 := Ok.cell hb za a3; have q4 := Ok.cell hb za a4; have q5 := Ok.cell hb zb b0; have q6 := Ok.cell hb zb b1; have q7 := Ok.cell hb zb b2; have q8 := Ok.cell hb zb b3; have q9 := Ok.cell hb zb b4; obtain ⟨k0, k1, k2, k3, k4, k5, k6, k7, k8, k9⟩ := row5_facts (Ok.row' hb rl.out); obtain ⟨j0, j1, j2, j3, j4, j5, j6, j7, j8, j9⟩ := row5_facts (Ok.row' hb rr.out))
    | fail)
  go_wp2_with fail
  obtain ⟨Z, hZ⟩ : ∃ Z, Z = ((((((((((w'.setCell ⟨gl, 0, none⟩ (.bool l.2.2.2.2)).setCell ⟨gl, 1, none⟩ (.int .i64 l.1)).setCell ⟨gl, 2, none⟩ (.int .i64 l.2.1)).setCell ⟨gl, 3, none⟩ (.int .u64 (l.2.2.1 : Int))).setCell ⟨gl, 4, none⟩ (.int .u64 (l.2.2.2.1 : Int))).setCell ⟨gr, 0, none⟩ (.bool r.2.2.2.2)).setCell ⟨gr, 1, none⟩ (.int .i64 r.1)).setCell ⟨gr, 2, none⟩ (.int .i64 r.2.1)).setCell ⟨gr, 3, none⟩ (.int .u64 (r.2.2.1 : Int))).setCell ⟨gr, 4, none⟩ (.int .u64 (r.2.2.2.1 : Int))) := ⟨_, rfl⟩
  have hp := rows_putr nglgr (Ok.row' hb rl.out) (Ok.row' hb rr.out) (HW.out.step hb) (by omega) (by omega) _ _ _ _ _ _ _ _ _ _ hZ
  rw [← hZ]
  clear hZ
  refine bodyPost_ret (results_2c rfl _ _ gl gr 29 #[_, _, _, _, _] #[_, _, _, _, _] (0, 0) _ rfl rfl hp.2.1 hp.2.2 Tryz.underlying29 rfl infoN infoN) rfl ?_
  exact ⟨rfl, hp.1⟩
set_option maxRecDepth 100000 in
set_option maxHeartbeats 4000000 in
theorem vclo2 (x y : Int × Int × Nat × Nat × Bool) (hx : RawN x) (hy : RawN y) (ga gb : Nat) (w : World) (ra0 : w.heap[ga]? = some (.cells #[.bool x.2.2.2.2, .int .i64 x.1, .int .i64 x.2.1, .int .u64 (x.2.2.1 : Int), .int .u64 (x.2.2.2.1 : Int)] 29)) (rb0 : w.heap[gb]? = some (.cells #[.bool y.2.2.2.2, .int .i64 y.1, .int .i64 y.2.1, .int .u64 (y.2.2.1 : Int), .int .u64 (y.2.2.2.1 : Int)] 29)) :
    Calls Tryz.prog 53 #[.pointer (some ⟨ga, 0, none⟩), .pointer (some ⟨gb, 0, none⟩)] w fun e w' => e = .returned (.tuple #[nv (meetN x (clipN (-9223372036854775808) y.2.1)), nv (meetN y (clipN x.1 9223372036854775807))]) ∧ Ok w w' := by
  have HU : Hid (RawN x ∧ RawN y) := ⟨hx, hy⟩
  clear hx hy
  obtain ⟨l, hl⟩ : ∃ t, t = meetN x (clipN (-9223372036854775808) y.2.1) := ⟨_, rfl⟩
  obtain ⟨r, hr⟩ : ∃ t, t = meetN y (clipN x.1 9223372036854775807) := ⟨_, rfl⟩
  rw [← hl, ← hr]
  have HL : Hid _ := hl
  have HR : Hid _ := hr
  clear hl hr
  have ra : Hid _ := ra0
  have rb : Hid _ := rb0
  clear ra0 rb0
  have hla := lt_row ra.out
  have hlb := lt_row rb.out
  have hok := Ok.refl w
  unfold nv
  go_enter Tryz.func53, Tryz.ntmps53
  go_wp2_with fail
  obtain ⟨W, hW⟩ : ∃ W, W = ((w).alloc (.cells #[.bool false, .int .i64 0, .int .i64 0, .int .u64 0, .int .u64 0] 29)).alloc (.cells #[.bool false, .int .i64 0, .int .i64 0, .int .u64 0, .int .u64 0] 29) := ⟨_, rfl⟩
  have rl : Hid (W.heap[w.heap.size]? = some (.cells #[.bool false, .int .i64 0, .int .i64 0, .int .u64 0, .int .u64 0] 29)) := by unfold Hid; rw [hW]; exact (by repeat (first | (refine heap_at _ _ _ ?hx; case hx => (first | (simp; done) | (simp; omega))) | (refine heap_past _ _ _ ?hy ?_; case hy => (first | (simp; done) | (simp; omega))) | fail))
  have rr : Hid (W.heap[w.heap.size + 1]? = some (.cells #[.bool false, .int .i64 0, .int .i64 0, .int .u64 0, .int .u64 0] 29)) := by unfold Hid; rw [hW]; exact (by repeat (first | (refine heap_at _ _ _ ?hx; case hx => (first | (simp; done) | (simp; omega))) | (refine heap_past _ _ _ ?hy ?_; case hy => (first | (simp; done) | (simp; omega))) | fail))
  have HW : Hid (Ok w W) := by unfold Hid; rw [hW]; exact (by repeat (first | exact hok | refine Ok.alloc ?_ _ | refine Ok.draws ?_ _ | fail))
  rw [← hW]
  clear hW
  have hO : Ok w W := HW.out
  replace ra : Hid _ := Ok.row' hO ra.out
  replace rb : Hid _ := Ok.row' hO rb.out
  clear hO
  obtain ⟨gr, egr⟩ : ∃ g, g = w.heap.size + 1 := ⟨_, rfl⟩
  rw [← egr] at rr ⊢
  obtain ⟨gl, egl⟩ : ∃ g, g = w.heap.size := ⟨_, rfl⟩
  rw [← egl] at rl ⊢
  have lgl : w.heap.size ≤ gl := by omega
  have nglgr : ¬ gl = gr := by omega
  have lgr : w.heap.size ≤ gr := by omega
  have ngrgl : ¬ gr = gl := by omega
  clear egl egr
  have ngagl : ¬ ga = gl := by omega
  have ngagr : ¬ ga = gr := by omega
  have ngbgl : ¬ gb = gl := by omega
  have ngbgr : ¬ gb = gr := by omega
  have nglga : ¬ gl = ga := by omega
  have ngrga : ¬ gr = ga := by omega
  have nglgb : ¬ gl = gb := by omega
  have ngrgb : ¬ gr = gb := by omega
  obtain ⟨a0, a1, a2, a3, a4, a5, a6, a7, a8, a9⟩ := row5_facts ra.out
  obtain ⟨b0, b1, b2, b3, b4, b5, b6, b7, b8, b9⟩ := row5_facts rb.out
  obtain ⟨k0, k1, k2, k3, k4, k5, k6, k7, k8, k9⟩ := row5_facts rl.out
  obtain ⟨j0, j1, j2, j3, j4, j5, j6, j7, j8, j9⟩ := row5_facts rr.out
  have za := lt_row ra.out
  have zb := lt_row rb.out
  have bz : Ok W W := Ok.refl _
  go_region_held3 (fun w' => w'.cell? ⟨ga, 0, none⟩ = some (.bool x.2.2.2.2) ∧ w'.cell? ⟨ga, 1, none⟩ = some (.int .i64 x.1) ∧ w'.cell? ⟨ga, 2, none⟩ = some (.int .i64 x.2.1) ∧ w'.cell? ⟨ga, 3, none⟩ = some (.int .u64 (x.2.2.1 : Int)) ∧ w'.cell? ⟨ga, 4, none⟩ = some (.int .u64 (x.2.2.2.1 : Int)) ∧ w'.cell? ⟨gb, 0, none⟩ = some (.bool y.2.2.2.2) ∧ w'.cell? ⟨gb, 1, none⟩ = some (.int .i64 y.1) ∧ w'.cell? ⟨gb, 2, none⟩ = some (.int .i64 y.2.1) ∧ w'.cell? ⟨gb, 3, none⟩ = some (.int .u64 (y.2.2.1 : Int)) ∧ w'.cell? ⟨gb, 4, none⟩ = some (.int .u64 (y.2.2.2.1 : Int))) (go_keep)
    (first
    | (go_at_call 56; refine (vnumber_any _ (by first | exact HU.out.2.2.1 | exact HU.out.1.1) W _ (by repeat (first | assumption | refine Ok.alloc ?_ _ | refine Below.drew ?_))).mono ?_; rintro e w' ⟨rfl, hb⟩; unfold wvv; have q0 := Ok.cell hb za a0; have q1 := Ok.cell hb za a1; have q2 := Ok.cell hb za a2; have q3 := Ok.cell hb za a3; have q4 := Ok.cell hb za a4; have q5 := Ok.cell hb zb b0; have q6 := Ok.cell hb zb b1; have q7 := Ok.cell hb zb b2; have q8 := Ok.cell hb zb b3; have q9 := Ok.cell hb zb b4; obtain ⟨k0, k1, k2, k3, k4, k5, k6, k7, k8, k9⟩ := row5_facts (Ok.row' hb rl.out); obtain ⟨j0, j1, j2, j3, j4, j5, j6, j7, j8, j9⟩ := row5_facts (Ok.row' hb rr.out))
    | (go_at_call 55; refine (vupto_any y.2.1 W _ (by repeat (first | assumption | refine Ok.alloc ?_ _ | refine Below.drew ?_))).mono ?_; rintro e w' ⟨rfl, hb⟩; unfold nv; have q0 := Ok.cell hb za a0; have q1 := Ok.cell hb za a1; have q2 := Ok.cell hb za a2; have q3 := Ok.cell hb za a3; have q4 := Ok.cell hb za a4; have q5 := Ok.cell hb zb b0; have q6 := Ok.cell hb zb b1; have q7 := Ok.cell hb zb b2; have q8 := Ok.cell hb zb b3; have q9 := Ok.cell hb zb b4; obtain ⟨k0, k1, k2, k3, k4, k5, k6, k7, k8, k9⟩ := row5_facts (Ok.row' hb rl.out); obtain ⟨j0, j1, j2, j3, j4, j5, j6, j7, j8, j9⟩ := row5_facts (Ok.row' hb rr.out))
    | (go_at_call 57; refine (vfrom_any x.1 W _ (by repeat (first | assumption | refine Ok.alloc ?_ _ | refine Below.drew ?_))).mono ?_; rintro e w' ⟨rfl, hb⟩; unfold nv; have q0 := Ok.cell hb za a0; have q1 := Ok.cell hb za a1; have q2 := Ok.cell hb za a2; have q3 := Ok.cell hb za a3; have q4 := Ok.cell hb za a4; have q5 := Ok.cell hb zb b0; have q6 := Ok.cell hb zb b1; have q7 := Ok.cell hb zb b2; have q8 := Ok.cell hb zb b3; have q9 := Ok.cell hb zb b4; obtain ⟨k0, k1, k2, k3, k4, k5, k6, k7, k8, k9⟩ := row5_facts (Ok.row' hb rl.out); obtain ⟨j0, j1, j2, j3, j4, j5, j6, j7, j8, j9⟩ := row5_facts (Ok.row' hb rr.out))
    | (go_at_call 54; refine (nmeet_any _ _ (by first | exact HU.out.1 | exact HU.out.2) (clip_raw _ _) W _ (by repeat (first | assumption | refine Ok.alloc ?_ _ | refine Below.drew ?_))).mono ?_; rintro e w' ⟨rfl, hb⟩; (first | rw [← HL.out] | rw [← HR.out]); unfold nv; have q0 := Ok.cell hb za a0; have q1 := Ok.cell hb za a1; have q2 := Ok.cell hb za a2; have q3 := Ok.cell hb za a3; have q4 := Ok.cell hb za a4; have q5 := Ok.cell hb zb b0; have q6 := Ok.cell hb zb b1; have q7 := Ok.cell hb zb b2; have q8 := Ok.cell hb zb b3; have q9 := Ok.cell hb zb b4; obtain ⟨k0, k1, k2, k3, k4, k5, k6, k7, k8, k9⟩ := row5_facts (Ok.row' hb rl.out); obtain ⟨j0, j1, j2, j3, j4, j5, j6, j7, j8, j9⟩ := row5_facts (Ok.row' hb rr.out))
    | fail)
  go_wp2_with fail
  obtain ⟨Z, hZ⟩ : ∃ Z, Z = ((((((((((w'.setCell ⟨gl, 0, none⟩ (.bool l.2.2.2.2)).setCell ⟨gl, 1, none⟩ (.int .i64 l.1)).setCell ⟨gl, 2, none⟩ (.int .i64 l.2.1)).setCell ⟨gl, 3, none⟩ (.int .u64 (l.2.2.1 : Int))).setCell ⟨gl, 4, none⟩ (.int .u64 (l.2.2.2.1 : Int))).setCell ⟨gr, 0, none⟩ (.bool r.2.2.2.2)).setCell ⟨gr, 1, none⟩ (.int .i64 r.1)).setCell ⟨gr, 2, none⟩ (.int .i64 r.2.1)).setCell ⟨gr, 3, none⟩ (.int .u64 (r.2.2.1 : Int))).setCell ⟨gr, 4, none⟩ (.int .u64 (r.2.2.2.1 : Int))) := ⟨_, rfl⟩
  have hp := rows_putr nglgr (Ok.row' hb rl.out) (Ok.row' hb rr.out) (HW.out.step hb) (by omega) (by omega) _ _ _ _ _ _ _ _ _ _ hZ
  rw [← hZ]
  clear hZ
  refine bodyPost_ret (results_2c rfl _ _ gl gr 29 #[_, _, _, _, _] #[_, _, _, _, _] (0, 0) _ rfl rfl hp.2.1 hp.2.2 Tryz.underlying29 rfl infoN infoN) rfl ?_
  exact ⟨rfl, hp.1⟩
set_option maxRecDepth 100000 in
set_option maxHeartbeats 4000000 in
theorem vclo4 (x y : Int × Int × Nat × Nat × Bool) (hx : RawN x) (hy : RawN y) (ga gb : Nat) (w : World) (ra0 : w.heap[ga]? = some (.cells #[.bool x.2.2.2.2, .int .i64 x.1, .int .i64 x.2.1, .int .u64 (x.2.2.1 : Int), .int .u64 (x.2.2.2.1 : Int)] 29)) (rb0 : w.heap[gb]? = some (.cells #[.bool y.2.2.2.2, .int .i64 y.1, .int .i64 y.2.1, .int .u64 (y.2.2.1 : Int), .int .u64 (y.2.2.2.1 : Int)] 29)) :
    Calls Tryz.prog 60 #[.pointer (some ⟨ga, 0, none⟩), .pointer (some ⟨gb, 0, none⟩)] w fun e w' => e = .returned (.tuple #[nv (unlN x y), nv (unlN y x)]) ∧ Ok w w' := by
  have HU : Hid (RawN x ∧ RawN y) := ⟨hx, hy⟩
  clear hx hy
  obtain ⟨l, hl⟩ : ∃ t, t = unlN x y := ⟨_, rfl⟩
  obtain ⟨r, hr⟩ : ∃ t, t = unlN y x := ⟨_, rfl⟩
  rw [← hl, ← hr]
  have HL : Hid _ := hl
  have HR : Hid _ := hr
  clear hl hr
  have ra : Hid _ := ra0
  have rb : Hid _ := rb0
  clear ra0 rb0
  have hla := lt_row ra.out
  have hlb := lt_row rb.out
  have hok := Ok.refl w
  unfold nv
  go_enter Tryz.func60, Tryz.ntmps60
  go_wp2_with fail
  obtain ⟨W, hW⟩ : ∃ W, W = ((w).alloc (.cells #[.bool false, .int .i64 0, .int .i64 0, .int .u64 0, .int .u64 0] 29)).alloc (.cells #[.bool false, .int .i64 0, .int .i64 0, .int .u64 0, .int .u64 0] 29) := ⟨_, rfl⟩
  have rl : Hid (W.heap[w.heap.size]? = some (.cells #[.bool false, .int .i64 0, .int .i64 0, .int .u64 0, .int .u64 0] 29)) := by unfold Hid; rw [hW]; exact (by repeat (first | (refine heap_at _ _ _ ?hx; case hx => (first | (simp; done) | (simp; omega))) | (refine heap_past _ _ _ ?hy ?_; case hy => (first | (simp; done) | (simp; omega))) | fail))
  have rr : Hid (W.heap[w.heap.size + 1]? = some (.cells #[.bool false, .int .i64 0, .int .i64 0, .int .u64 0, .int .u64 0] 29)) := by unfold Hid; rw [hW]; exact (by repeat (first | (refine heap_at _ _ _ ?hx; case hx => (first | (simp; done) | (simp; omega))) | (refine heap_past _ _ _ ?hy ?_; case hy => (first | (simp; done) | (simp; omega))) | fail))
  have HW : Hid (Ok w W) := by unfold Hid; rw [hW]; exact (by repeat (first | exact hok | refine Ok.alloc ?_ _ | refine Ok.draws ?_ _ | fail))
  rw [← hW]
  clear hW
  have hO : Ok w W := HW.out
  replace ra : Hid _ := Ok.row' hO ra.out
  replace rb : Hid _ := Ok.row' hO rb.out
  clear hO
  obtain ⟨gr, egr⟩ : ∃ g, g = w.heap.size + 1 := ⟨_, rfl⟩
  rw [← egr] at rr ⊢
  obtain ⟨gl, egl⟩ : ∃ g, g = w.heap.size := ⟨_, rfl⟩
  rw [← egl] at rl ⊢
  have lgl : w.heap.size ≤ gl := by omega
  have nglgr : ¬ gl = gr := by omega
  have lgr : w.heap.size ≤ gr := by omega
  have ngrgl : ¬ gr = gl := by omega
  clear egl egr
  have ngagl : ¬ ga = gl := by omega
  have ngagr : ¬ ga = gr := by omega
  have ngbgl : ¬ gb = gl := by omega
  have ngbgr : ¬ gb = gr := by omega
  have nglga : ¬ gl = ga := by omega
  have ngrga : ¬ gr = ga := by omega
  have nglgb : ¬ gl = gb := by omega
  have ngrgb : ¬ gr = gb := by omega
  obtain ⟨a0, a1, a2, a3, a4, a5, a6, a7, a8, a9⟩ := row5_facts ra.out
  obtain ⟨b0, b1, b2, b3, b4, b5, b6, b7, b8, b9⟩ := row5_facts rb.out
  obtain ⟨k0, k1, k2, k3, k4, k5, k6, k7, k8, k9⟩ := row5_facts rl.out
  obtain ⟨j0, j1, j2, j3, j4, j5, j6, j7, j8, j9⟩ := row5_facts rr.out
  have za := lt_row ra.out
  have zb := lt_row rb.out
  have bz : Ok W W := Ok.refl _
  go_region_held3 (fun w' => w'.cell? ⟨ga, 0, none⟩ = some (.bool x.2.2.2.2) ∧ w'.cell? ⟨ga, 1, none⟩ = some (.int .i64 x.1) ∧ w'.cell? ⟨ga, 2, none⟩ = some (.int .i64 x.2.1) ∧ w'.cell? ⟨ga, 3, none⟩ = some (.int .u64 (x.2.2.1 : Int)) ∧ w'.cell? ⟨ga, 4, none⟩ = some (.int .u64 (x.2.2.2.1 : Int)) ∧ w'.cell? ⟨gb, 0, none⟩ = some (.bool y.2.2.2.2) ∧ w'.cell? ⟨gb, 1, none⟩ = some (.int .i64 y.1) ∧ w'.cell? ⟨gb, 2, none⟩ = some (.int .i64 y.2.1) ∧ w'.cell? ⟨gb, 3, none⟩ = some (.int .u64 (y.2.2.1 : Int)) ∧ w'.cell? ⟨gb, 4, none⟩ = some (.int .u64 (y.2.2.2.1 : Int))) (go_keep)
    (first
    | (go_at_call 61; refine (vunlike_any _ _ (by first | exact HU.out.1 | exact HU.out.2) (by first | exact HU.out.2 | exact HU.out.1) W _ (by repeat (first | assumption | refine Ok.alloc ?_ _ | refine Below.drew ?_))).mono ?_; rintro e w' ⟨rfl, hb⟩; (first | rw [← HL.out] | rw [← HR.out]); unfold nv; have q0 := Ok.cell hb za a0; have q1 := Ok.cell hb za a1; have q2 := Ok.cell hb za a2; have q3 := Ok.cell hb za a3; have q4 := Ok.cell hb za a4; have q5 := Ok.cell hb zb b0; have q6 := Ok.cell hb zb b1; have q7 := Ok.cell hb zb b2; have q8 := Ok.cell hb zb b3; have q9 := Ok.cell hb zb b4; obtain ⟨k0, k1, k2, k3, k4, k5, k6, k7, k8, k9⟩ := row5_facts (Ok.row' hb rl.out); obtain ⟨j0, j1, j2, j3, j4, j5, j6, j7, j8, j9⟩ := row5_facts (Ok.row' hb rr.out))
    | fail)
  go_wp2_with fail
  obtain ⟨Z, hZ⟩ : ∃ Z, Z = ((((((((((w'.setCell ⟨gl, 0, none⟩ (.bool l.2.2.2.2)).setCell ⟨gl, 1, none⟩ (.int .i64 l.1)).setCell ⟨gl, 2, none⟩ (.int .i64 l.2.1)).setCell ⟨gl, 3, none⟩ (.int .u64 (l.2.2.1 : Int))).setCell ⟨gl, 4, none⟩ (.int .u64 (l.2.2.2.1 : Int))).setCell ⟨gr, 0, none⟩ (.bool r.2.2.2.2)).setCell ⟨gr, 1, none⟩ (.int .i64 r.1)).setCell ⟨gr, 2, none⟩ (.int .i64 r.2.1)).setCell ⟨gr, 3, none⟩ (.int .u64 (r.2.2.1 : Int))).setCell ⟨gr, 4, none⟩ (.int .u64 (r.2.2.2.1 : Int))) := ⟨_, rfl⟩
  have hp := rows_putr nglgr (Ok.row' hb rl.out) (Ok.row' hb rr.out) (HW.out.step hb) (by omega) (by omega) _ _ _ _ _ _ _ _ _ _ hZ
  rw [← hZ]
  clear hZ
  refine bodyPost_ret (results_2c rfl _ _ gl gr 29 #[_, _, _, _, _] #[_, _, _, _, _] (0, 0) _ rfl rfl hp.2.1 hp.2.2 Tryz.underlying29 rfl infoN infoN) rfl ?_
  exact ⟨rfl, hp.1⟩
end Go.Proofs.YtgkbegmaffknbabGreat
