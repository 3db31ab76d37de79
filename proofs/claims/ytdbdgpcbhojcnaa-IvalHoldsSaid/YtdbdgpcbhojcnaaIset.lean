import Derived.Test.YtdbdgpcbhojcnaaIwk
set_option linter.unusedVariables false
set_option linter.unusedSimpArgs false
set_option linter.unnecessarySimpa false
/- IvalSets: the law's walk. -/
namespace Go.Proofs.Ytdbdgpcbhojcnaa
open Go.RowKit
set_option maxHeartbeats 2000000 in
theorem sets_any (al ah bl bh v : Int) (w0 w : World) (hok : Ok w0 w) :
    Calls Try.prog 4 #[.agg #[.int .i64 al, .int .i64 ah], .agg #[.int .i64 bl, .int .i64 bh], .int .i64 v] w fun e w' => e = .returned (.bool true) ∧ Ok w0 w' := by
  have HC : Hid _ := And.intro (joinI_comm bl bh al ah) (meetI_comm bl bh al ah)
  go_enter Try.func4, Try.ntmps4
  go_wp2_with fail
  obtain ⟨W, hW⟩ : ∃ W, W = (w.alloc (.cells #[.int .i64 al, .int .i64 ah] 23)).alloc (.cells #[.int .i64 bl, .int .i64 bh] 23) := ⟨_, rfl⟩
  have ra : W.heap[w.heap.size]? = some (.cells #[.int .i64 al, .int .i64 ah] 23) := by rw [hW]; exact (by repeat (first | (refine heap_at _ _ _ ?hx; case hx => (first | (simp; done) | (simp; omega))) | (refine heap_past _ _ _ ?hy ?_; case hy => (first | (simp; done) | (simp; omega))) | fail))
  have rb : W.heap[w.heap.size + 1]? = some (.cells #[.int .i64 bl, .int .i64 bh] 23) := by rw [hW]; exact (by repeat (first | (refine heap_at _ _ _ ?hx; case hx => (first | (simp; done) | (simp; omega))) | (refine heap_past _ _ _ ?hy ?_; case hy => (first | (simp; done) | (simp; omega))) | fail))
  have hokW : Ok w0 W := by rw [hW]; exact (by repeat (first | exact hok | refine Ok.alloc ?_ _ | refine Ok.draws ?_ _ | fail))
  rw [← hW]
  clear hW
  obtain ⟨c0, c1, _, _⟩ := row_facts ra
  obtain ⟨c2, c3, _, _⟩ := row_facts rb
  have g0 := lt_row ra
  have g1 := lt_row rb
  refine (works_any W W (Ok.refl _)).mono ?_
  rintro e w1 ⟨rfl, hb⟩
  have d0 := Ok.cell hb g0 c0; have d1 := Ok.cell hb g0 c1; have d2 := Ok.cell hb g1 c2; have d3 := Ok.cell hb g1 c3
  go_wp2_with fail
  go_region_held3 (fun w' => w'.cell? ⟨w.heap.size, 0, none⟩ = some (.int .i64 al) ∧ w'.cell? ⟨w.heap.size, 1, none⟩ = some (.int .i64 ah) ∧ w'.cell? ⟨w.heap.size + 1, 0, none⟩ = some (.int .i64 bl) ∧ w'.cell? ⟨w.heap.size + 1, 1, none⟩ = some (.int .i64 bh)) (go_keep)
    (first
    | (go_at_call 12; refine (phas_any _ _ _ W _ (by first | assumption | exact Below.drew (by assumption))).mono ?_; rintro e w' ⟨rfl, hb⟩; have d0 := Ok.cell hb g0 c0; have d1 := Ok.cell hb g0 c1; have d2 := Ok.cell hb g1 c2; have d3 := Ok.cell hb g1 c3)
    | (go_at_call 13; refine (rhas_any _ _ _ W _ (by first | assumption | exact Below.drew (by assumption))).mono ?_; rintro e w' ⟨rfl, hb⟩; have d0 := Ok.cell hb g0 c0; have d1 := Ok.cell hb g0 c1; have d2 := Ok.cell hb g1 c2; have d3 := Ok.cell hb g1 c3)
    | (go_at_call 11; refine (pleq_any _ _ _ _ W _ (by first | assumption | exact Below.drew (by assumption))).mono ?_; rintro e w' ⟨rfl, hb⟩; have d0 := Ok.cell hb g0 c0; have d1 := Ok.cell hb g0 c1; have d2 := Ok.cell hb g1 c2; have d3 := Ok.cell hb g1 c3)
    | (go_at_call 14; refine (rleq_any _ _ _ _ W _ (by first | assumption | exact Below.drew (by assumption))).mono ?_; rintro e w' ⟨rfl, hb⟩; have d0 := Ok.cell hb g0 c0; have d1 := Ok.cell hb g0 c1; have d2 := Ok.cell hb g1 c2; have d3 := Ok.cell hb g1 c3)
    | fail)
  go_wp2_with fail
  refine (pjoin_any _ _ _ _ W _ (by assumption)).mono ?_
  rintro e wj ⟨rfl, hbj⟩
  have e0 := Ok.cell hbj g0 c0; have e1 := Ok.cell hbj g0 c1; have e2 := Ok.cell hbj g1 c2; have e3 := Ok.cell hbj g1 c3
  have lj := hbj.le
  have x0 : w.heap.size < wj.heap.size := by omega
  have x1 : w.heap.size + 1 < wj.heap.size := by omega
  have x2 : ¬ w.heap.size = wj.heap.size := by omega
  have x3 : ¬ w.heap.size + 1 = wj.heap.size := by omega
  go_wp2_with fail
  refine (pmeet_any _ _ _ _ _ _ (Ok.refl _)).mono ?_
  rintro e wm ⟨rfl, hbm⟩
  have okWm : Ok W wm := Ok.step (hbj.alloc _) hbm
  have rj := Ok.row' hbm (heap_new0 _ _)
  obtain ⟨J, hJ⟩ : ∃ J, J = joinI al ah bl bh := ⟨_, rfl⟩
  obtain ⟨M', hM⟩ : ∃ M', M' = meetI al ah bl bh := ⟨_, rfl⟩
  rw [← hJ] at rj ⊢
  rw [← hM]
  obtain ⟨gj, hgj⟩ : ∃ gj, gj = wj.heap.size := ⟨_, rfl⟩
  rw [← hgj] at rj ⊢
  have f0 := Ok.cell okWm g0 c0; have f1 := Ok.cell okWm g0 c1; have f2 := Ok.cell okWm g1 c2; have f3 := Ok.cell okWm g1 c3
  obtain ⟨j0, j1, _, _⟩ := row_facts rj
  have y0 := lt_row rj
  have lm := okWm.le
  have z0 : w.heap.size < wm.heap.size := by omega
  have z1 : w.heap.size + 1 < wm.heap.size := by omega
  have HJM : Hid _ := And.intro hJ hM
  have HRJ : Hid _ := And.intro rj okWm
  clear d0 d1 d2 d3 e0 e1 e2 e3 x0 x1 x2 x3 hJ hM hgj rj
  go_wp2_with fail
  obtain ⟨Z, hZ⟩ : ∃ Z, Z = wm.alloc (.cells #[.int .i64 M'.1, .int .i64 M'.2] 23) := ⟨_, rfl⟩
  obtain ⟨gm, hgm⟩ : ∃ gm, gm = wm.heap.size := ⟨_, rfl⟩
  have okZ : Ok wm Z := by rw [hZ]; exact (Ok.refl _).alloc _
  have rm : Z.heap[gm]? = some (.cells #[.int .i64 M'.1, .int .i64 M'.2] 23) := by rw [hZ]; exact heap_at _ _ _ hgm
  rw [← hZ, ← hgm]
  clear hZ hgm
  obtain ⟨m0, m1, _, _⟩ := row_facts rm
  have f0' := Ok.cell okZ z0 f0; have f1' := Ok.cell okZ z0 f1; have f2' := Ok.cell okZ z1 f2; have f3' := Ok.cell okZ z1 f3
  have j0' := Ok.cell okZ y0 j0; have j1' := Ok.cell okZ y0 j1
  have lz := okZ.le
  have u0 : w.heap.size < Z.heap.size := by omega
  have u1 : w.heap.size + 1 < Z.heap.size := by omega
  have u2 : gj < Z.heap.size := by omega
  have u3 := lt_row rm
  have HZ : Hid _ := Ok.step HRJ.out.2 okZ
  clear f0 f1 f2 f3 j0 j1 y0 z0 z1 lz lm rm okZ
  have bz : Ok Z Z := Ok.refl _
  go_region_held3 (fun w' => w'.cell? ⟨w.heap.size, 0, none⟩ = some (.int .i64 al) ∧ w'.cell? ⟨w.heap.size, 1, none⟩ = some (.int .i64 ah) ∧ w'.cell? ⟨w.heap.size + 1, 0, none⟩ = some (.int .i64 bl) ∧ w'.cell? ⟨w.heap.size + 1, 1, none⟩ = some (.int .i64 bh) ∧ w'.cell? ⟨gj, 0, none⟩ = some (.int .i64 J.1) ∧ w'.cell? ⟨gj, 1, none⟩ = some (.int .i64 J.2) ∧ w'.cell? ⟨gm, 0, none⟩ = some (.int .i64 M'.1) ∧ w'.cell? ⟨gm, 1, none⟩ = some (.int .i64 M'.2)) (go_keep)
    (first
    | (go_at_call 17; refine (rjoin_any _ _ _ _ Z _ (by first | assumption | exact Below.drew (by assumption))).mono ?_; rintro e w' ⟨rfl, hb⟩; rw [← HJM.out.1]; have q0 := Ok.cell hb u0 f0'; have q1 := Ok.cell hb u0 f1'; have q2 := Ok.cell hb u1 f2'; have q3 := Ok.cell hb u1 f3'; have q4 := Ok.cell hb u2 j0'; have q5 := Ok.cell hb u2 j1'; have q6 := Ok.cell hb u3 m0; have q7 := Ok.cell hb u3 m1)
    | (go_at_call 18; refine (rmeet_any _ _ _ _ Z _ (by first | assumption | exact Below.drew (by assumption))).mono ?_; rintro e w' ⟨rfl, hb⟩; rw [← HJM.out.2]; have q0 := Ok.cell hb u0 f0'; have q1 := Ok.cell hb u0 f1'; have q2 := Ok.cell hb u1 f2'; have q3 := Ok.cell hb u1 f3'; have q4 := Ok.cell hb u2 j0'; have q5 := Ok.cell hb u2 j1'; have q6 := Ok.cell hb u3 m0; have q7 := Ok.cell hb u3 m1)
    | (go_at_call 15; refine (pjoin_any _ _ _ _ Z _ (by first | assumption | exact Below.drew (by assumption))).mono ?_; rintro e w' ⟨rfl, hb⟩; rw [HC.out.1, ← HJM.out.1]; have q0 := Ok.cell hb u0 f0'; have q1 := Ok.cell hb u0 f1'; have q2 := Ok.cell hb u1 f2'; have q3 := Ok.cell hb u1 f3'; have q4 := Ok.cell hb u2 j0'; have q5 := Ok.cell hb u2 j1'; have q6 := Ok.cell hb u3 m0; have q7 := Ok.cell hb u3 m1)
    | (go_at_call 16; refine (pmeet_any _ _ _ _ Z _ (by first | assumption | exact Below.drew (by assumption))).mono ?_; rintro e w' ⟨rfl, hb⟩; rw [HC.out.2, ← HJM.out.2]; have q0 := Ok.cell hb u0 f0'; have q1 := Ok.cell hb u0 f1'; have q2 := Ok.cell hb u1 f2'; have q3 := Ok.cell hb u1 f3'; have q4 := Ok.cell hb u2 j0'; have q5 := Ok.cell hb u2 j1'; have q6 := Ok.cell hb u3 m0; have q7 := Ok.cell hb u3 m1)
    | fail)
  go_wp2_with fail
  go_ret
  exact ⟨rfl, hokW.step (Ok.step HZ.out hb)⟩
end Go.Proofs.Ytdbdgpcbhojcnaa
