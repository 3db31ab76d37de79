import Derived.Deep.RegionHeld3
import Derived.Test.YtgkbegmaffknbaaGreatHNdv
import Derived.Test.YtgkbegmaffknbaaGreatHNm
set_option linter.unusedVariables false
set_option linter.unusedSimpArgs false
set_option linter.unnecessarySimpa false
/- Non -/
namespace Go.Proofs.YtgkbegmaffknbaaGreat
open Go.RowKit

set_option maxRecDepth 100000 in
set_option maxHeartbeats 2000000 in
theorem opnd_alone (op : Int) (a b : Int × Int × Nat × Nat × Bool) (ha : RawN a) (hb : RawN b) (w0 w : World) (hok : Ok w0 w) :
    Calls Tryz.prog 55 #[.agg #[.int .i64 op, .bool true, .bool false], nv a, nv b] w fun e w' => e = .returned (.tuple #[nv (normN a), nv (normN a)]) ∧ Ok w0 w' := by
  have hle := hok.le
  have HU : Hid _ := And.intro ha hb
  clear ha hb
  obtain ⟨x, hx⟩ : ∃ x, x = normN a := ⟨_, rfl⟩
  have HX : Hid _ := hx
  obtain ⟨y, hy⟩ : ∃ y, y = normN a := ⟨_, rfl⟩
  have HY : Hid _ := hy
  rw [← hx]
  clear hx hy
  unfold nv
  go_enter Tryz.func55, Tryz.ntmps55
  go_wp2_with fail
  obtain ⟨W, hW⟩ : ∃ W, W = (((((w).alloc (.cells #[.int .i64 op, .bool true, .bool false] 75)).alloc (.cells #[.bool a.2.2.2.2, .int .i64 a.1, .int .i64 a.2.1, .int .u64 (a.2.2.1 : Int), .int .u64 (a.2.2.2.1 : Int)] 28)).alloc (.cells #[.bool b.2.2.2.2, .int .i64 b.1, .int .i64 b.2.1, .int .u64 (b.2.2.1 : Int), .int .u64 (b.2.2.2.1 : Int)] 28)).alloc (.cells #[.bool false, .int .i64 0, .int .i64 0, .int .u64 0, .int .u64 0] 28)).alloc (.cells #[.bool false, .int .i64 0, .int .i64 0, .int .u64 0, .int .u64 0] 28) := ⟨_, rfl⟩
  have rs : Hid (W.heap[w.heap.size]? = some (.cells #[.int .i64 op, .bool true, .bool false] 75)) := by unfold Hid; rw [hW]; exact (by repeat (first | (refine heap_at _ _ _ ?hx; case hx => (first | (simp; done) | (simp; omega))) | (refine heap_past _ _ _ ?hy ?_; case hy => (first | (simp; done) | (simp; omega))) | fail))
  have ra : Hid (W.heap[w.heap.size + 1]? = some (.cells #[.bool a.2.2.2.2, .int .i64 a.1, .int .i64 a.2.1, .int .u64 (a.2.2.1 : Int), .int .u64 (a.2.2.2.1 : Int)] 28)) := by unfold Hid; rw [hW]; exact (by repeat (first | (refine heap_at _ _ _ ?hx; case hx => (first | (simp; done) | (simp; omega))) | (refine heap_past _ _ _ ?hy ?_; case hy => (first | (simp; done) | (simp; omega))) | fail))
  have rb : Hid (W.heap[w.heap.size + 1 + 1]? = some (.cells #[.bool b.2.2.2.2, .int .i64 b.1, .int .i64 b.2.1, .int .u64 (b.2.2.1 : Int), .int .u64 (b.2.2.2.1 : Int)] 28)) := by unfold Hid; rw [hW]; exact (by repeat (first | (refine heap_at _ _ _ ?hx; case hx => (first | (simp; done) | (simp; omega))) | (refine heap_past _ _ _ ?hy ?_; case hy => (first | (simp; done) | (simp; omega))) | fail))
  have r1 : Hid (W.heap[w.heap.size + 1 + 1 + 1]? = some (.cells #[.bool false, .int .i64 0, .int .i64 0, .int .u64 0, .int .u64 0] 28)) := by unfold Hid; rw [hW]; exact (by repeat (first | (refine heap_at _ _ _ ?hx; case hx => (first | (simp; done) | (simp; omega))) | (refine heap_past _ _ _ ?hy ?_; case hy => (first | (simp; done) | (simp; omega))) | fail))
  have r2 : Hid (W.heap[w.heap.size + 1 + 1 + 1 + 1]? = some (.cells #[.bool false, .int .i64 0, .int .i64 0, .int .u64 0, .int .u64 0] 28)) := by unfold Hid; rw [hW]; exact (by repeat (first | (refine heap_at _ _ _ ?hx; case hx => (first | (simp; done) | (simp; omega))) | (refine heap_past _ _ _ ?hy ?_; case hy => (first | (simp; done) | (simp; omega))) | fail))
  have HW : Hid (Ok w0 W) := by unfold Hid; rw [hW]; exact (by repeat (first | exact hok | refine Ok.alloc ?_ _ | refine Ok.draws ?_ _ | fail))
  rw [← hW]
  clear hW
  obtain ⟨g2, eg2⟩ : ∃ g, g = w.heap.size + 1 + 1 + 1 + 1 := ⟨_, rfl⟩
  rw [← eg2] at r2 ⊢
  obtain ⟨g1, eg1⟩ : ∃ g, g = w.heap.size + 1 + 1 + 1 := ⟨_, rfl⟩
  rw [← eg1] at r1 ⊢
  obtain ⟨gb, egb⟩ : ∃ g, g = w.heap.size + 1 + 1 := ⟨_, rfl⟩
  rw [← egb] at rb ⊢
  obtain ⟨ga, ega⟩ : ∃ g, g = w.heap.size + 1 := ⟨_, rfl⟩
  rw [← ega] at ra ⊢
  obtain ⟨gs, egs⟩ : ∃ g, g = w.heap.size := ⟨_, rfl⟩
  rw [← egs] at rs ⊢
  have lgs : w0.heap.size ≤ gs := by omega
  have ngsga : ¬ gs = ga := by omega
  have ngsgb : ¬ gs = gb := by omega
  have ngsg1 : ¬ gs = g1 := by omega
  have ngsg2 : ¬ gs = g2 := by omega
  have lga : w0.heap.size ≤ ga := by omega
  have ngags : ¬ ga = gs := by omega
  have ngagb : ¬ ga = gb := by omega
  have ngag1 : ¬ ga = g1 := by omega
  have ngag2 : ¬ ga = g2 := by omega
  have lgb : w0.heap.size ≤ gb := by omega
  have ngbgs : ¬ gb = gs := by omega
  have ngbga : ¬ gb = ga := by omega
  have ngbg1 : ¬ gb = g1 := by omega
  have ngbg2 : ¬ gb = g2 := by omega
  have lg1 : w0.heap.size ≤ g1 := by omega
  have ng1gs : ¬ g1 = gs := by omega
  have ng1ga : ¬ g1 = ga := by omega
  have ng1gb : ¬ g1 = gb := by omega
  have ng1g2 : ¬ g1 = g2 := by omega
  have lg2 : w0.heap.size ≤ g2 := by omega
  have ng2gs : ¬ g2 = gs := by omega
  have ng2ga : ¬ g2 = ga := by omega
  have ng2gb : ¬ g2 = gb := by omega
  have ng2g1 : ¬ g2 = g1 := by omega
  clear egs ega egb eg1 eg2
  refine (nnorm_any a HU.out.1 W _ (by repeat (first | exact Ok.refl _ | refine Ok.alloc ?_ _ | refine Ok.draws ?_ _ | fail))).mono ?_
  rintro e w1 ⟨rfl, hb⟩
  replace rs : Hid _ := Ok.row' hb rs.out
  replace ra : Hid _ := Ok.row' hb ra.out
  replace rb : Hid _ := Ok.row' hb rb.out
  replace r1 : Hid _ := Ok.row' hb r1.out
  replace r2 : Hid _ := Ok.row' hb r2.out
  have Hw1 : Hid (Ok w0 w1) := HW.out.step hb
  clear hb
  rw [← HX.out]
  unfold nv
  obtain ⟨a0, a1, a2, a3, a4, a5, a6, a7, a8, a9⟩ := row5_facts ra.out
  obtain ⟨s0, s1, s2, s3, s4, s5⟩ := row3_facts rs.out
  obtain ⟨b0, b1, b2, b3, b4, b5, b6, b7, b8, b9⟩ := row5_facts rb.out
  go_wp2_with fail
  obtain ⟨Z, hZ⟩ : ∃ Z, Z = (((((w1.setCell ⟨ga, 0, none⟩ (.bool x.2.2.2.2)).setCell ⟨ga, 1, none⟩ (.int .i64 x.1)).setCell ⟨ga, 2, none⟩ (.int .i64 x.2.1)).setCell ⟨ga, 3, none⟩ (.int .u64 (x.2.2.1 : Int))).setCell ⟨ga, 4, none⟩ (.int .u64 (x.2.2.2.1 : Int))) := ⟨_, rfl⟩
  obtain ⟨HZ, raz, keep⟩ := (rows_put1 ra.out Hw1.out (by omega) _ _ _ _ _ hZ).out
  replace HZ : Hid (Ok w0 Z) := HZ
  replace raz : Hid _ := raz
  replace rs : Hid _ := keep _ _ (by omega) rs.out
  replace rb : Hid _ := keep _ _ (by omega) rb.out
  replace r1 : Hid _ := keep _ _ (by omega) r1.out
  replace r2 : Hid _ := keep _ _ (by omega) r2.out
  rw [← hZ]
  clear hZ keep ra
  clear a0 a1 a2 a3 a4 a5 a6 a7 a8 a9 b0 b1 b2 b3 b4 b5 b6 b7 b8 b9 s0 s1 s2 s3 s4 s5
  obtain ⟨a0, a1, a2, a3, a4, a5, a6, a7, a8, a9⟩ := row5_facts raz.out
  obtain ⟨b0, b1, b2, b3, b4, b5, b6, b7, b8, b9⟩ := row5_facts rb.out
  obtain ⟨p0, p1, p2, p3, p4, p5, p6, p7, p8, p9⟩ := row5_facts r1.out
  obtain ⟨q0, q1, q2, q3, q4, q5, q6, q7, q8, q9⟩ := row5_facts r2.out
  have za := lt_row raz.out
  have zb := lt_row rb.out
  have bz : Ok Z Z := Ok.refl _
  clear p0 p1 p2 p3 p4 p5 p6 p7 p8 p9 q0 q1 q2 q3 q4 q5 q6 q7 q8 q9 a0 a1 a2 a3 a4 a5 a6 a7 a8 a9 b0 b1 b2 b3 b4 b5 b6 b7 b8 b9
  refine wp_region_held_drew (S := fun w' => w'.heap[ga]? = some (.cells #[.bool x.2.2.2.2, .int .i64 x.1, .int .i64 x.2.1, .int .u64 (x.2.2.1 : Int), .int .u64 (x.2.2.2.1 : Int)] 28)) (by kernel_rfl) raz.out (fun hHeld => ?_)
  have hb : Ok Z Z.drew := Below.drew (Ok.refl Z)
  obtain ⟨D, hD⟩ : ∃ D, D = Z.drew := ⟨_, rfl⟩
  rw [← hD] at hb hHeld ⊢
  clear hD
  refine wpAnyH_take (i := 0) (v := .agg #[.bool x.2.2.2.2, .int .i64 x.1, .int .i64 x.2.1, .int .u64 (x.2.2.1 : Int), .int .u64 (x.2.2.2.1 : Int)]) rfl (by kernel_rfl) (by kernel_rfl) (by kernel_rfl) (fun _ _ _ h => h) (Or.inl ⟨by rfl, ?_⟩) hHeld ?_
  · intro w hSw; (try dsimp only at hSw); have zz := row5_facts hSw; have c0 := zz.1; have c1 := zz.2.1; have c2 := zz.2.2.1; have c3 := zz.2.2.2.1; have c4 := zz.2.2.2.2.1; clear zz; (go_simp; try with_reducible rfl)
  (try simp only [Act.put, List.getElem_toArray, List.getElem_cons_succ, List.getElem_cons_zero, List.setIfInBounds_toArray, List.set_cons_zero, List.set_cons_succ])
  refine wpAnyH_take (i := 1) (v := .agg #[.bool x.2.2.2.2, .int .i64 x.1, .int .i64 x.2.1, .int .u64 (x.2.2.1 : Int), .int .u64 (x.2.2.2.1 : Int)]) rfl (by kernel_rfl) (by kernel_rfl) (by kernel_rfl) (fun _ _ _ h => h) (Or.inl ⟨by rfl, ?_⟩) hHeld ?_
  · intro w hSw; (try dsimp only at hSw); have zz := row5_facts hSw; have c0 := zz.1; have c1 := zz.2.1; have c2 := zz.2.2.1; have c3 := zz.2.2.2.1; have c4 := zz.2.2.2.2.1; clear zz; (go_simp; try with_reducible rfl)
  (try simp only [Act.put, List.getElem_toArray, List.getElem_cons_succ, List.getElem_cons_zero, List.setIfInBounds_toArray, List.set_cons_zero, List.set_cons_succ])
  have f1 : Hid _ := Ok.row' hb r1.out
  have f2 : Hid _ := Ok.row' hb r2.out
  have zz := row5_facts (f1.out)
  have p0 := zz.1
  have p1 := zz.2.1
  have p2 := zz.2.2.1
  have p3 := zz.2.2.2.1
  have p4 := zz.2.2.2.2.1
  have p5 := zz.2.2.2.2.2.1
  have p6 := zz.2.2.2.2.2.2.1
  have p7 := zz.2.2.2.2.2.2.2.1
  have p8 := zz.2.2.2.2.2.2.2.2.1
  have p9 := zz.2.2.2.2.2.2.2.2.2
  clear zz
  refine wpAnyH_ready (rs := [2]) (by kernel_rfl) (by simp) ?_
  refine AllReadyH.cons rfl (fun K hK => ?_) AllReadyH.nil
  go_simp
  have h1 := rows_put1 (w0 := w0) (Z := (((((D.setCell ⟨g1, 0, none⟩ (.bool x.2.2.2.2)).setCell ⟨g1, 1, none⟩ (.int .i64 x.1)).setCell ⟨g1, 2, none⟩ (.int .i64 x.2.1)).setCell ⟨g1, 3, none⟩ (.int .u64 (x.2.2.1 : Int))).setCell ⟨g1, 4, none⟩ (.int .u64 (x.2.2.2.1 : Int)))) f1.out (HZ.out.step hb) (by omega) _ _ _ _ _ rfl
  refine hK.out _ _ (h1.out.2.2 _ _ (by omega) hHeld) (fun hHeld => ?_)
  clear hK K p0 p1 p2 p3 p4 p5 p6 p7 p8 p9
  (try simp only [Act.put, List.getElem_toArray, List.getElem_cons_succ, List.getElem_cons_zero, List.setIfInBounds_toArray, List.set_cons_zero, List.set_cons_succ])
  obtain ⟨E, hE⟩ : ∃ E, E = (((((D.setCell ⟨g1, 0, none⟩ (.bool x.2.2.2.2)).setCell ⟨g1, 1, none⟩ (.int .i64 x.1)).setCell ⟨g1, 2, none⟩ (.int .i64 x.2.1)).setCell ⟨g1, 3, none⟩ (.int .u64 (x.2.2.1 : Int))).setCell ⟨g1, 4, none⟩ (.int .u64 (x.2.2.2.1 : Int))) := ⟨_, rfl⟩
  rw [← hE] at h1 hHeld ⊢
  have HE : Hid _ := hE
  clear hE
  have f3 : Hid _ := h1.out.2.2 _ _ (by omega) f2.out
  have zz := row5_facts (f3.out)
  have q0 := zz.1
  have q1 := zz.2.1
  have q2 := zz.2.2.1
  have q3 := zz.2.2.2.1
  have q4 := zz.2.2.2.2.1
  have q5 := zz.2.2.2.2.2.1
  have q6 := zz.2.2.2.2.2.2.1
  have q7 := zz.2.2.2.2.2.2.2.1
  have q8 := zz.2.2.2.2.2.2.2.2.1
  have q9 := zz.2.2.2.2.2.2.2.2.2
  clear zz
  refine wpAnyH_ready (rs := [3]) (by kernel_rfl) (by simp) ?_
  refine AllReadyH.cons rfl (fun K hK => ?_) AllReadyH.nil
  go_simp
  have h2 := rows_put1 (w0 := w0) (Z := (((((E.setCell ⟨g2, 0, none⟩ (.bool x.2.2.2.2)).setCell ⟨g2, 1, none⟩ (.int .i64 x.1)).setCell ⟨g2, 2, none⟩ (.int .i64 x.2.1)).setCell ⟨g2, 3, none⟩ (.int .u64 (x.2.2.1 : Int))).setCell ⟨g2, 4, none⟩ (.int .u64 (x.2.2.2.1 : Int)))) f3.out h1.out.1 (by omega) _ _ _ _ _ rfl
  refine hK.out _ _ (h2.out.2.2 _ _ (by omega) hHeld) (fun hHeld => ?_)
  clear hK K q0 q1 q2 q3 q4 q5 q6 q7 q8 q9
  (try simp only [Act.put, List.getElem_toArray, List.getElem_cons_succ, List.getElem_cons_zero, List.setIfInBounds_toArray, List.set_cons_zero, List.set_cons_succ])
  refine wpAnyH_done (by kernel_rfl) ?_ _
  rw [HE.out]
  rw [HE.out] at h2
  go_wp2_with fail
  (try simp only [Exit.inBlock, Exit.then]); refine bodyPost_ret (results_2c rfl _ _ g1 g2 28 #[_, _, _, _, _] #[_, _, _, _, _] (0, 0) _ rfl rfl (rows_put2 (g := g1) (k := g2) (by omega) r1.out r2.out hb HZ.out (by omega) (by omega) _ _ _ _ _ _ _ _ _ _).out.2.1 (rows_put2 (g := g1) (k := g2) (by omega) r1.out r2.out hb HZ.out (by omega) (by omega) _ _ _ _ _ _ _ _ _ _).out.2.2.1 Tryz.underlying28 rfl infoN infoN) rfl ?_
  exact ⟨rfl, (rows_put2 (g := g1) (k := g2) (by omega) r1.out r2.out hb HZ.out (by omega) (by omega) _ _ _ _ _ _ _ _ _ _).out.1⟩
end Go.Proofs.YtgkbegmaffknbaaGreat
