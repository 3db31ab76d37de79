import Derived.Deep.Cut
import Derived.Deep.CutRange
import Derived.Test.YtbkblijoimmdeaaGreatKNps
import Derived.Test.YtbkblijoimmdeaaGreatKVg
set_option linter.unusedVariables false
set_option linter.unusedSimpArgs false
set_option linter.unnecessarySimpa false
/- Vi -/
namespace Go.Proofs.YtbkblijoimmdeaaGreat
open Go.RowKit Go.Shelf
/-- Apply of OpSub. -/
def subA (a b : Int × Int × Nat × Nat × Bool) : Int × Int × Nat × Nat × Bool := ap2 subN (normN a) (normN b)
theorem subA_raw {a b : Int × Int × Nat × Nat × Bool} (ha : RawN a) (hb : RawN b) : RawN (subA a b) := ap2_raw (subN_raw (normN_raw ha) (normN_raw hb))

set_option maxRecDepth 100000 in
set_option maxHeartbeats 4000000 in
theorem vapply_sub (a b : Int × Int × Nat × Nat × Bool) (ha : RawN a) (hb : RawN b) (w0 w : World) (hok : Ok w0 w) :
    Calls Tryz.prog 68 #[.int .i64 4, nv a, nv b] w fun e w' => e = .returned (nv (subA a b)) ∧ Ok w0 w' := by
  have hle := hok.le
  have HU : Hid (RawN a ∧ RawN b) := ⟨ha, hb⟩
  clear ha hb
  obtain ⟨g, hg⟩ : ∃ t, t = subA a b := ⟨_, rfl⟩
  rw [← hg]
  have HG : Hid _ := hg
  clear hg
  unfold nv
  go_enter Tryz.func68, Tryz.ntmps68
  go_wp2_with fail
  obtain ⟨W, hW⟩ : ∃ W, W = (((w).alloc (.cells #[.bool a.2.2.2.2, .int .i64 a.1, .int .i64 a.2.1, .int .u64 (a.2.2.1 : Int), .int .u64 (a.2.2.2.1 : Int)] 29)).alloc (.cells #[.bool b.2.2.2.2, .int .i64 b.1, .int .i64 b.2.1, .int .u64 (b.2.2.1 : Int), .int .u64 (b.2.2.2.1 : Int)] 29)).alloc (.cells #[.bool false, .int .i64 0, .int .i64 0, .int .u64 0, .int .u64 0] 29) := ⟨_, rfl⟩
  have rz : Hid (W.heap[w.heap.size + 1 + 1]? = some (.cells #[.bool false, .int .i64 0, .int .i64 0, .int .u64 0, .int .u64 0] 29)) := by unfold Hid; rw [hW]; exact (by repeat (first | (refine heap_at _ _ _ ?hx; case hx => (first | (simp; done) | (simp; omega))) | (refine heap_past _ _ _ ?hy ?_; case hy => (first | (simp; done) | (simp; omega))) | fail))
  have HW : Hid (Ok w0 W) := by unfold Hid; rw [hW]; exact (by repeat (first | exact hok | refine Ok.alloc ?_ _ | refine Ok.draws ?_ _ | fail))
  rw [← hW]
  clear hW
  obtain ⟨gz, egz⟩ : ∃ g, g = w.heap.size + 1 + 1 := ⟨_, rfl⟩
  rw [← egz] at rz ⊢
  obtain ⟨gb, egb⟩ : ∃ g, g = w.heap.size + 1 := ⟨_, rfl⟩
  rw [← egb]
  obtain ⟨ga, ega⟩ : ∃ g, g = w.heap.size := ⟨_, rfl⟩
  rw [← ega]
  have lga : w0.heap.size ≤ ga := by omega
  have ngagb : ¬ ga = gb := by omega
  have ngagz : ¬ ga = gz := by omega
  have lgb : w0.heap.size ≤ gb := by omega
  have ngbga : ¬ gb = ga := by omega
  have ngbgz : ¬ gb = gz := by omega
  have lgz : w0.heap.size ≤ gz := by omega
  have ngzga : ¬ gz = ga := by omega
  have ngzgb : ¬ gz = gb := by omega
  clear ega egb egz
  refine (napply_sub a b HU.out.1 HU.out.2 W _ (Ok.refl _)).mono ?_
  rintro e w1 ⟨rfl, hb⟩
  rw [show ap2 subN (normN a) (normN b) = g from HG.out.symm]
  unfold nv
  replace rz : Hid _ := Ok.row' hb rz.out
  have Hw1 : Hid (Ok w0 w1) := HW.out.step hb
  clear hb HW
  go_upto_region 2 with (fail)
  obtain ⟨Z, hZ⟩ : ∃ W, W = w1.alloc (.cells #[.bool g.2.2.2.2, .int .i64 g.1, .int .i64 g.2.1, .int .u64 (g.2.2.1 : Int), .int .u64 (g.2.2.2.1 : Int)] 29) := ⟨_, rfl⟩
  have rg : Hid (Z.heap[w1.heap.size]? = some (.cells #[.bool g.2.2.2.2, .int .i64 g.1, .int .i64 g.2.1, .int .u64 (g.2.2.1 : Int), .int .u64 (g.2.2.2.1 : Int)] 29)) := by unfold Hid; rw [hZ]; exact heap_new0 _ _
  have hO : Ok w1 Z := by rw [hZ]; exact (Ok.refl _).alloc _
  rw [← hZ]
  have q1 := lt_row rz.out
  obtain ⟨gg, egg⟩ : ∃ g, g = w1.heap.size := ⟨_, rfl⟩
  rw [← egg] at rg ⊢
  have d1 : ¬ gg = gz := by omega
  have d2 : ¬ gz = gg := by omega
  clear hZ egg q1
  replace rz : Hid _ := Ok.row' hO rz.out
  have HZ : Hid (Ok w0 Z) := Hw1.out.step hO
  clear hO Hw1
  obtain ⟨a0, a1, a2, a3, a4, a5, a6, a7, a8, a9⟩ := row5_facts rg.out
  obtain ⟨k0, k1, k2, k3, k4, k5, k6, k7, k8, k9⟩ := row5_facts rz.out
  go_wp2_with fail
  have hr : Hid _ := rz
  (try simp only [Exit.inBlock, Exit.then]); refine bodyPost_ret (results_cell_row rfl _ _ (gz) 29 #[_, _, _, _, _] (0, 0) _ rfl (row_set5 hr.out _ _ _ _ _) Tryz.underlying29 rfl infoN) rfl ?_
  exact ⟨rfl, Ok.set (Ok.set (Ok.set (Ok.set (Ok.set (HZ.out) (show w0.heap.size ≤ gz by omega) _) (show w0.heap.size ≤ gz by omega) _) (show w0.heap.size ≤ gz by omega) _) (show w0.heap.size ≤ gz by omega) _) (show w0.heap.size ≤ gz by omega) _⟩
set_option maxRecDepth 100000 in
set_option maxHeartbeats 4000000 in
theorem vsol2 (x y z : Int × Int × Nat × Nat × Bool) (hx : RawN x) (hy : RawN y) (hz : RawN z) (ga gc gb : Nat) (w : World) (ra0 : w.heap[ga]? = some (.cells #[.bool x.2.2.2.2, .int .i64 x.1, .int .i64 x.2.1, .int .u64 (x.2.2.1 : Int), .int .u64 (x.2.2.2.1 : Int)] 29)) (rc0 : w.heap[gc]? = some (.cells #[.bool z.2.2.2.2, .int .i64 z.1, .int .i64 z.2.1, .int .u64 (z.2.2.1 : Int), .int .u64 (z.2.2.2.1 : Int)] 29)) (rb0 : w.heap[gb]? = some (.cells #[.bool y.2.2.2.2, .int .i64 y.1, .int .i64 y.2.1, .int .u64 (y.2.2.1 : Int), .int .u64 (y.2.2.2.1 : Int)] 29)) :
    Calls Tryz.prog 70 #[.pointer (some ⟨ga, 0, none⟩), .pointer (some ⟨gc, 0, none⟩), .pointer (some ⟨gb, 0, none⟩)] w fun e w' => e = .returned (.tuple #[nv (meetN x (subA z y)), nv (meetN y (subA z x))]) ∧ Ok w w' := by
  have HU : Hid (RawN x ∧ RawN y ∧ RawN z) := ⟨hx, hy, hz⟩
  clear hx hy hz
  obtain ⟨p, hp0⟩ : ∃ t, t = subA z y := ⟨_, rfl⟩
  obtain ⟨q, hq0⟩ : ∃ t, t = subA z x := ⟨_, rfl⟩
  have RP : Hid (RawN p ∧ RawN q) := by rw [hp0, hq0]; exact ⟨subA_raw HU.out.2.2 HU.out.2.1, subA_raw HU.out.2.2 HU.out.1⟩
  rw [← hp0, ← hq0]
  obtain ⟨l, hl⟩ : ∃ t, t = meetN x p := ⟨_, rfl⟩
  obtain ⟨r, hr⟩ : ∃ t, t = meetN y q := ⟨_, rfl⟩
  rw [← hl, ← hr]
  have HP : Hid _ := hp0
  have HQ : Hid _ := hq0
  have HL : Hid _ := hl
  have HR : Hid _ := hr
  clear hl hr hp0 hq0
  have ra : Hid _ := ra0
  have rb : Hid _ := rb0
  have rc : Hid _ := rc0
  clear ra0 rb0 rc0
  have hla := lt_row ra.out
  have hlb := lt_row rb.out
  have hlc := lt_row rc.out
  have hok := Ok.refl w
  unfold nv
  go_enter Tryz.func70, Tryz.ntmps70
  go_wp2_with fail
  obtain ⟨W, hW⟩ : ∃ W, W = ((w).alloc (.cells #[.bool false, .int .i64 0, .int .i64 0, .int .u64 0, .int .u64 0] 29)).alloc (.cells #[.bool false, .int .i64 0, .int .i64 0, .int .u64 0, .int .u64 0] 29) := ⟨_, rfl⟩
  have rl : Hid (W.heap[w.heap.size]? = some (.cells #[.bool false, .int .i64 0, .int .i64 0, .int .u64 0, .int .u64 0] 29)) := by unfold Hid; rw [hW]; exact (by repeat (first | (refine heap_at _ _ _ ?hx; case hx => (first | (simp; done) | (simp; omega))) | (refine heap_past _ _ _ ?hy ?_; case hy => (first | (simp; done) | (simp; omega))) | fail))
  have rr : Hid (W.heap[w.heap.size + 1]? = some (.cells #[.bool false, .int .i64 0, .int .i64 0, .int .u64 0, .int .u64 0] 29)) := by unfold Hid; rw [hW]; exact (by repeat (first | (refine heap_at _ _ _ ?hx; case hx => (first | (simp; done) | (simp; omega))) | (refine heap_past _ _ _ ?hy ?_; case hy => (first | (simp; done) | (simp; omega))) | fail))
  have HW : Hid (Ok w W) := by unfold Hid; rw [hW]; exact (by repeat (first | exact hok | refine Ok.alloc ?_ _ | refine Ok.draws ?_ _ | fail))
  rw [← hW]
  clear hW
  have hO : Ok w W := HW.out
  replace ra : Hid _ := Ok.row' hO ra.out
  replace rb : Hid _ := Ok.row' hO rb.out
  replace rc : Hid _ := Ok.row' hO rc.out
  clear hO
  obtain ⟨gr, egr⟩ : ∃ g, g = w.heap.size + 1 := ⟨_, rfl⟩
  rw [← egr] at rr ⊢
  obtain ⟨gl, egl⟩ : ∃ g, g = w.heap.size := ⟨_, rfl⟩
  rw [← egl] at rl ⊢
  have lgl : w.heap.size ≤ gl := by omega
  have nglgr : ¬ gl = gr := by omega
  have lgr : w.heap.size ≤ gr := by omega
  have ngrgl : ¬ gr = gl := by omega
  clear egl egr
  have ngagl : ¬ ga = gl := by omega
  have ngagr : ¬ ga = gr := by omega
  have ngbgl : ¬ gb = gl := by omega
  have ngbgr : ¬ gb = gr := by omega
  have ngcgl : ¬ gc = gl := by omega
  have ngcgr : ¬ gc = gr := by omega
  have nglga : ¬ gl = ga := by omega
  have ngrga : ¬ gr = ga := by omega
  have nglgb : ¬ gl = gb := by omega
  have ngrgb : ¬ gr = gb := by omega
  have nglgc : ¬ gl = gc := by omega
  have ngrgc : ¬ gr = gc := by omega
  obtain ⟨a0, a1, a2, a3, a4, a5, a6, a7, a8, a9⟩ := row5_facts ra.out
  obtain ⟨b0, b1, b2, b3, b4, b5, b6, b7, b8, b9⟩ := row5_facts rb.out
  obtain ⟨c0, c1, c2, c3, c4, c5, c6, c7, c8, c9⟩ := row5_facts rc.out
  obtain ⟨k0, k1, k2, k3, k4, k5, k6, k7, k8, k9⟩ := row5_facts rl.out
  obtain ⟨j0, j1, j2, j3, j4, j5, j6, j7, j8, j9⟩ := row5_facts rr.out
  have za := lt_row ra.out
  have zb := lt_row rb.out
  have zc := lt_row rc.out
  have bz : Ok W W := Ok.refl _
  go_region_held3 (fun w' => w'.cell? ⟨ga, 0, none⟩ = some (.bool x.2.2.2.2) ∧ w'.cell? ⟨ga, 1, none⟩ = some (.int .i64 x.1) ∧ w'.cell? ⟨ga, 2, none⟩ = some (.int .i64 x.2.1) ∧ w'.cell? ⟨ga, 3, none⟩ = some (.int .u64 (x.2.2.1 : Int)) ∧ w'.cell? ⟨ga, 4, none⟩ = some (.int .u64 (x.2.2.2.1 : Int)) ∧ w'.cell? ⟨gb, 0, none⟩ = some (.bool y.2.2.2.2) ∧ w'.cell? ⟨gb, 1, none⟩ = some (.int .i64 y.1) ∧ w'.cell? ⟨gb, 2, none⟩ = some (.int .i64 y.2.1) ∧ w'.cell? ⟨gb, 3, none⟩ = some (.int .u64 (y.2.2.1 : Int)) ∧ w'.cell? ⟨gb, 4, none⟩ = some (.int .u64 (y.2.2.2.1 : Int)) ∧ w'.cell? ⟨gc, 0, none⟩ = some (.bool z.2.2.2.2) ∧ w'.cell? ⟨gc, 1, none⟩ = some (.int .i64 z.1) ∧ w'.cell? ⟨gc, 2, none⟩ = some (.int .i64 z.2.1) ∧ w'.cell? ⟨gc, 3, none⟩ = some (.int .u64 (z.2.2.1 : Int)) ∧ w'.cell? ⟨gc, 4, none⟩ = some (.int .u64 (z.2.2.2.1 : Int))) (go_keep)
    (first
    | (go_at_call 68; refine (vapply_sub _ _ HU.out.2.2 (by first | exact HU.out.2.1 | exact HU.out.1) W _ (by repeat (first | assumption | refine Ok.alloc ?_ _ | refine Below.drew ?_))).mono ?_; rintro e w' ⟨rfl, hb⟩; (first | rw [← HP.out] | rw [← HQ.out]); unfold nv; have q0 := Ok.cell hb za a0; have q1 := Ok.cell hb za a1; have q2 := Ok.cell hb za a2; have q3 := Ok.cell hb za a3; have q4 := Ok.cell hb za a4; have q5 := Ok.cell hb zb b0; have q6 := Ok.cell hb zb b1; have q7 := Ok.cell hb zb b2; have q8 := Ok.cell hb zb b3; have q9 := Ok.cell hb zb b4; have q10 := Ok.cell hb zc c0; have q11 := Ok.cell hb zc c1; have q12 := Ok.cell hb zc c2; have q13 := Ok.cell hb zc c3; have q14 := Ok.cell hb zc c4; obtain ⟨k0, k1, k2, k3, k4, k5, k6, k7, k8, k9⟩ := row5_facts (Ok.row' hb rl.out); obtain ⟨j0, j1, j2, j3, j4, j5, j6, j7, j8, j9⟩ := row5_facts (Ok.row' hb rr.out))
    | (go_at_call 30; refine (nmeet_any _ _ (by first | exact HU.out.1 | exact HU.out.2.1) (by first | exact RP.out.1 | exact RP.out.2) W _ (by repeat (first | assumption | refine Ok.alloc ?_ _ | refine Below.drew ?_))).mono ?_; rintro e w' ⟨rfl, hb⟩; (first | rw [← HL.out] | rw [← HR.out]); unfold nv; have q0 := Ok.cell hb za a0; have q1 := Ok.cell hb za a1; have q2 := Ok.cell hb za a2; have q3 := Ok.cell hb za a3; have q4 := Ok.cell hb za a4; have q5 := Ok.cell hb zb b0; have q6 := Ok.cell hb zb b1; have q7 := Ok.cell hb zb b2; have q8 := Ok.cell hb zb b3; have q9 := Ok.cell hb zb b4; have q10 := Ok.cell hb zc c0; have q11 := Ok.cell hb zc c1; have q12 := Ok.cell hb zc c2; have q13 := Ok.cell hb zc c3; have q14 := Ok.cell hb zc c4; obtain ⟨k0, k1, k2, k3, k4, k5, k6, k7, k8, k9⟩ := row5_facts (Ok.row' hb rl.out); obtain ⟨j0, j1, j2, j3, j4, j5, j6, j7, j8, j9⟩ := row5_facts (Ok.row' hb rr.out))
    | fail)
  go_wp2_with fail
  obtain ⟨Z, hZ⟩ : ∃ Z, Z = ((((((((((w'.setCell ⟨gl, 0, none⟩ (.bool l.2.2.2.2)).setCell ⟨gl, 1, none⟩ (.int .i64 l.1)).setCell ⟨gl, 2, none⟩ (.int .i64 l.2.1)).setCell ⟨gl, 3, none⟩ (.int .u64 (l.2.2.1 : Int))).setCell ⟨gl, 4, none⟩ (.int .u64 (l.2.2.2.1 : Int))).setCell ⟨gr, 0, none⟩ (.bool r.2.2.2.2)).setCell ⟨gr, 1, none⟩ (.int .i64 r.1)).setCell ⟨gr, 2, none⟩ (.int .i64 r.2.1)).setCell ⟨gr, 3, none⟩ (.int .u64 (r.2.2.1 : Int))).setCell ⟨gr, 4, none⟩ (.int .u64 (r.2.2.2.1 : Int))) := ⟨_, rfl⟩
  have hp := rows_putr nglgr (Ok.row' hb rl.out) (Ok.row' hb rr.out) (HW.out.step hb) (by omega) (by omega) _ _ _ _ _ _ _ _ _ _ hZ
  rw [← hZ]
  clear hZ
  refine bodyPost_ret (results_2c rfl _ _ gl gr 29 #[_, _, _, _, _] #[_, _, _, _, _] (0, 0) _ rfl rfl hp.2.1 hp.2.2 Tryz.underlying29 rfl infoN infoN) rfl ?_
  exact ⟨rfl, hp.1⟩
set_option maxRecDepth 100000 in
set_option maxHeartbeats 4000000 in
theorem vsolving_add (x y z : Int × Int × Nat × Nat × Bool) (hx : RawN x) (hy : RawN y) (hz : RawN z) (w0 w : World) (hok : Ok w0 w) :
    Calls Tryz.prog 41 #[.int .i64 3, nv x, nv y, nv z] w (CPost w0 (meetN x (subA z y)) (meetN y (subA z x))) := by
  have hmf := run_mf
  have HX : Hid (RawN x ∧ RawN y ∧ RawN z) := ⟨hx, hy, hz⟩
  clear hx hy hz
  unfold nv
  go_enter Tryz.func41, Tryz.ntmps41
  go_wp2_with fail
  go_ret
  refine ⟨_, rfl, ⟨70, _, rfl, fun w => by kernel_rfl, fun w1 h1 => ?_⟩, ((hok.alloc _).alloc _).alloc _⟩
  exact vsol2 x y z HX.out.1 HX.out.2.1 HX.out.2.2 _ _ _ w1 (Ok.row' h1 (by repeat (first | (refine heap_at _ _ _ ?hx; case hx => (first | (simp; done) | (simp; omega))) | (refine heap_past _ _ _ ?hy ?_; case hy => (first | (simp; done) | (simp; omega))) | fail))) (Ok.row' h1 (by repeat (first | (refine heap_at _ _ _ ?hx; case hx => (first | (simp; done) | (simp; omega))) | (refine heap_past _ _ _ ?hy ?_; case hy => (first | (simp; done) | (simp; omega))) | fail))) (Ok.row' h1 (by repeat (first | (refine heap_at _ _ _ ?hx; case hx => (first | (simp; done) | (simp; omega))) | (refine heap_past _ _ _ ?hy ?_; case hy => (first | (simp; done) | (simp; omega))) | fail)))
set_option maxRecDepth 100000 in
set_option maxHeartbeats 4000000 in
theorem vNegate_lt (w0 w : World) (hok : Ok w0 w) :
    Calls Tryz.prog 6 #[.int .i64 8] w fun e w' => e = .returned (.tuple #[.int .i64 11, .int .i64 0]) ∧ Ok w0 w' := by
  go_enter Tryz.func6, Tryz.ntmps6
  go_wp2_with fail
  refine bodyPost_ret (results_tmp2 rfl _ _ _) rfl ?_
  exact ⟨rfl, hok⟩
end Go.Proofs.YtbkblijoimmdeaaGreat
