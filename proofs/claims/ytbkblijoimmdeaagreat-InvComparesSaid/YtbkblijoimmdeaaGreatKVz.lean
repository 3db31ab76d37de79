import Derived.Test.YtbkblijoimmdeaaGreatKVyc
import Derived.Test.YtbkblijoimmdeaaGreatKVyb
set_option linter.unusedVariables false
set_option linter.unusedSimpArgs false
set_option linter.unnecessarySimpa false
/- InvCompares: the law's walk. -/
namespace Go.Proofs.YtbkblijoimmdeaaGreat
open Go.RowKit Go.Shelf
theorem rCompare_any (op : Int) (ho : OpC op) (a b : Int × Int × Nat × Nat × Bool) (ha : RawN a) (hb : RawN b) (w0 w : World) (hok : Ok w0 w) :
    Calls Tryz.prog 5 #[.int .i64 op, nv a, nv b] w fun e w' => e = .returned (.tuple #[nv (cmpA op (normN a) (normN b)).1, nv (cmpA op (normN a) (normN b)).2, .int .i64 0]) ∧ Ok w0 w' := by
  rcases ho with rfl | rfl | rfl | rfl | rfl | rfl
  · exact rCmp8 a b ha hb w0 w hok
  · exact rCmp9 a b ha hb w0 w hok
  · exact rCmp10 a b ha hb w0 w hok
  · exact rCmp11 a b ha hb w0 w hok
  · exact rCmp12 a b ha hb w0 w hok
  · exact rCmp13 a b ha hb w0 w hok
set_option maxRecDepth 100000 in
set_option maxHeartbeats 8000000 in
theorem rCompare_no (op : Int) (ho : ¬ OpC op) (a b : Int × Int × Nat × Nat × Bool) (ha : RawN a) (hb : RawN b) (w0 w : World) (hok : Ok w0 w) :
    Calls Tryz.prog 5 #[.int .i64 op, nv a, nv b] w fun e w' => e = .returned (.tuple #[nv botN, nv botN, .int .i64 1]) ∧ Ok w0 w' := by
  have hle := hok.le
  have HOP : Hid (¬ OpC op) := ho
  clear ho ha hb
  unfold nv
  go_enter Tryz.func5, Tryz.ntmps5
  go_wp2_with fail
  obtain ⟨W, hW⟩ : ∃ W, W = ((((w).alloc (.cells #[.bool a.2.2.2.2, .int .i64 a.1, .int .i64 a.2.1, .int .u64 (a.2.2.1 : Int), .int .u64 (a.2.2.2.1 : Int)] 29)).alloc (.cells #[.bool b.2.2.2.2, .int .i64 b.1, .int .i64 b.2.1, .int .u64 (b.2.2.1 : Int), .int .u64 (b.2.2.2.1 : Int)] 29)).alloc (.cells #[.bool false, .int .i64 0, .int .i64 0, .int .u64 0, .int .u64 0] 29)).alloc (.cells #[.bool false, .int .i64 0, .int .i64 0, .int .u64 0, .int .u64 0] 29) := ⟨_, rfl⟩
  have rp : Hid (W.heap[w.heap.size + 1 + 1]? = some (.cells #[.bool false, .int .i64 0, .int .i64 0, .int .u64 0, .int .u64 0] 29)) := by unfold Hid; rw [hW]; exact (by repeat (first | (refine heap_at _ _ _ ?hx; case hx => (first | (simp; done) | (simp; omega))) | (refine heap_past _ _ _ ?hy ?_; case hy => (first | (simp; done) | (simp; omega))) | fail))
  have rq : Hid (W.heap[w.heap.size + 1 + 1 + 1]? = some (.cells #[.bool false, .int .i64 0, .int .i64 0, .int .u64 0, .int .u64 0] 29)) := by unfold Hid; rw [hW]; exact (by repeat (first | (refine heap_at _ _ _ ?hx; case hx => (first | (simp; done) | (simp; omega))) | (refine heap_past _ _ _ ?hy ?_; case hy => (first | (simp; done) | (simp; omega))) | fail))
  have HW : Hid (Ok w0 W) := by unfold Hid; rw [hW]; exact (by repeat (first | exact hok | refine Ok.alloc ?_ _ | refine Ok.draws ?_ _ | fail))
  rw [← hW]
  clear hW
  obtain ⟨gq, egq⟩ : ∃ g, g = w.heap.size + 1 + 1 + 1 := ⟨_, rfl⟩
  rw [← egq] at rq ⊢
  obtain ⟨gp, egp⟩ : ∃ g, g = w.heap.size + 1 + 1 := ⟨_, rfl⟩
  rw [← egp] at rp ⊢
  obtain ⟨gb, egb⟩ : ∃ g, g = w.heap.size + 1 := ⟨_, rfl⟩
  rw [← egb]
  obtain ⟨ga, ega⟩ : ∃ g, g = w.heap.size := ⟨_, rfl⟩
  rw [← ega]
  have lga : w0.heap.size ≤ ga := by omega
  have ngagb : ¬ ga = gb := by omega
  have ngagp : ¬ ga = gp := by omega
  have ngagq : ¬ ga = gq := by omega
  have lgb : w0.heap.size ≤ gb := by omega
  have ngbga : ¬ gb = ga := by omega
  have ngbgp : ¬ gb = gp := by omega
  have ngbgq : ¬ gb = gq := by omega
  have lgp : w0.heap.size ≤ gp := by omega
  have ngpga : ¬ gp = ga := by omega
  have ngpgb : ¬ gp = gb := by omega
  have ngpgq : ¬ gp = gq := by omega
  have lgq : w0.heap.size ≤ gq := by omega
  have ngqga : ¬ gq = ga := by omega
  have ngqgb : ¬ gq = gb := by omega
  have ngqgp : ¬ gq = gp := by omega
  clear ega egb egp egq
  refine (rNegate_no op HOP.out W _ (by repeat (first | exact Ok.refl _ | refine Ok.alloc ?_ _ | refine Ok.draws ?_ _ | fail))).mono ?_
  rintro e w1 ⟨rfl, hb⟩
  replace rp : Hid _ := Ok.row' hb rp.out
  replace rq : Hid _ := Ok.row' hb rq.out
  have Hw1 : Hid (Ok w0 w1) := HW.out.step hb
  clear hb
  go_wp2_with fail
  refine (rbot_any w1 _ (Ok.refl _)).mono ?_
  rintro e w2 ⟨rfl, hb⟩
  replace rp : Hid _ := Ok.row' hb rp.out
  replace rq : Hid _ := Ok.row' hb rq.out
  have Hw2 : Hid (Ok w0 w2) := Hw1.out.step hb
  clear hb
  unfold nv botN
  go_wp2_with fail
  refine (rbot_any w2 _ (Ok.refl _)).mono ?_
  rintro e w3 ⟨rfl, hb⟩
  replace rp : Hid _ := Ok.row' hb rp.out
  replace rq : Hid _ := Ok.row' hb rq.out
  have Hw3 : Hid (Ok w0 w3) := Hw2.out.step hb
  clear hb
  unfold nv botN
  obtain ⟨k0, k1, k2, k3, k4, k5, k6, k7, k8, k9⟩ := row5_facts rp.out
  obtain ⟨j0, j1, j2, j3, j4, j5, j6, j7, j8, j9⟩ := row5_facts rq.out
  go_wp2_with fail
  obtain ⟨Y, hY⟩ : ∃ Z, Z = ((((((((((w3.setCell ⟨gp, 0, none⟩ (.bool true)).setCell ⟨gp, 1, none⟩ (.int .i64 0)).setCell ⟨gp, 2, none⟩ (.int .i64 0)).setCell ⟨gp, 3, none⟩ (.int .u64 0)).setCell ⟨gp, 4, none⟩ (.int .u64 0)).setCell ⟨gq, 0, none⟩ (.bool true)).setCell ⟨gq, 1, none⟩ (.int .i64 0)).setCell ⟨gq, 2, none⟩ (.int .i64 0)).setCell ⟨gq, 3, none⟩ (.int .u64 0)).setCell ⟨gq, 4, none⟩ (.int .u64 0)) := ⟨_, rfl⟩
  have hp := rows_putr ngpgq rp.out rq.out Hw3.out lgp lgq _ _ _ _ _ _ _ _ _ _ hY
  rw [← hY]
  clear hY
  refine bodyPost_ret (results_2ct rfl _ _ gp gq 29 #[_, _, _, _, _] #[_, _, _, _, _] (0, 0) _ rfl rfl hp.2.1 hp.2.2 Tryz.underlying29 rfl infoN infoN) rfl ?_
  exact ⟨rfl, hp.1⟩
set_option maxRecDepth 100000 in
set_option maxHeartbeats 8000000 in
theorem compares_yes (op : Int) (ho : OpC op) (a b : Int × Int × Nat × Nat × Bool) (ha : RawN a) (hb : RawN b) (w0 w : World) (hok : Ok w0 w) :
    Calls Tryz.prog 3 #[.int .i64 op, nv a, nv b] w fun e w' => e = .returned (.bool true) ∧ Ok w0 w' := by
  have hle := hok.le
  have HU : Hid (RawN a ∧ RawN b) := ⟨ha, hb⟩
  have HO : Hid (OpC op) := ho
  clear ha hb ho
  obtain ⟨l, hl⟩ : ∃ t, (cmpA op (normN a) (normN b)).1 = t := ⟨_, rfl⟩
  obtain ⟨r, hr⟩ : ∃ t, (cmpA op (normN a) (normN b)).2 = t := ⟨_, rfl⟩
  have HL : Hid _ := hl
  have HR : Hid _ := hr
  clear hl hr
  obtain ⟨n, hn⟩ : ∃ t, negF op = t := ⟨_, rfl⟩
  have HN : Hid _ := hn
  clear hn
  unfold nv
  go_enter Tryz.func3, Tryz.ntmps3
  go_wp2_with fail
  obtain ⟨W, hW⟩ : ∃ W, W = ((w).alloc (.cells #[.bool a.2.2.2.2, .int .i64 a.1, .int .i64 a.2.1, .int .u64 (a.2.2.1 : Int), .int .u64 (a.2.2.2.1 : Int)] 29)).alloc (.cells #[.bool b.2.2.2.2, .int .i64 b.1, .int .i64 b.2.1, .int .u64 (b.2.2.1 : Int), .int .u64 (b.2.2.2.1 : Int)] 29) := ⟨_, rfl⟩
  have ra : Hid (W.heap[w.heap.size]? = some (.cells #[.bool a.2.2.2.2, .int .i64 a.1, .int .i64 a.2.1, .int .u64 (a.2.2.1 : Int), .int .u64 (a.2.2.2.1 : Int)] 29)) := by unfold Hid; rw [hW]; exact (by repeat (first | (refine heap_at _ _ _ ?hx; case hx => (first | (simp; done) | (simp; omega))) | (refine heap_past _ _ _ ?hy ?_; case hy => (first | (simp; done) | (simp; omega))) | fail))
  have rb : Hid (W.heap[w.heap.size + 1]? = some (.cells #[.bool b.2.2.2.2, .int .i64 b.1, .int .i64 b.2.1, .int .u64 (b.2.2.1 : Int), .int .u64 (b.2.2.2.1 : Int)] 29)) := by unfold Hid; rw [hW]; exact (by repeat (first | (refine heap_at _ _ _ ?hx; case hx => (first | (simp; done) | (simp; omega))) | (refine heap_past _ _ _ ?hy ?_; case hy => (first | (simp; done) | (simp; omega))) | fail))
  have HW : Hid (Ok w0 W) := by unfold Hid; rw [hW]; exact (by repeat (first | exact hok | refine Ok.alloc ?_ _ | refine Ok.draws ?_ _ | fail))
  rw [← hW]
  clear hW
  obtain ⟨gb, egb⟩ : ∃ g, g = w.heap.size + 1 := ⟨_, rfl⟩
  rw [← egb] at rb ⊢
  obtain ⟨ga, ega⟩ : ∃ g, g = w.heap.size := ⟨_, rfl⟩
  rw [← ega] at ra ⊢
  have lga : w0.heap.size ≤ ga := by omega
  have ngagb : ¬ ga = gb := by omega
  have lgb : w0.heap.size ≤ gb := by omega
  have ngbga : ¬ gb = ga := by omega
  clear ega egb
  refine (vCompare_any op HO.out a b HU.out.1 HU.out.2 W _ (Ok.refl _)).mono ?_
  rintro e w1 ⟨rfl, hb⟩
  replace ra : Hid _ := Ok.row' hb ra.out
  replace rb : Hid _ := Ok.row' hb rb.out
  have Hw1 : Hid (Ok w0 w1) := HW.out.step hb
  clear hb
  rw [HL.out, HR.out]
  unfold nv
  obtain ⟨a0, a1, a2, a3, a4, a5, a6, a7, a8, a9⟩ := row5_facts ra.out
  have za := lt_row ra.out
  have ya : ga < w1.heap.size + 1 := by omega
  obtain ⟨b0, b1, b2, b3, b4, b5, b6, b7, b8, b9⟩ := row5_facts rb.out
  have zb := lt_row rb.out
  have yb : gb < w1.heap.size + 1 := by omega
  go_wp2_with fail
  clear a0 a1 a2 a3 a4 a5 a6 a7 a8 a9 za ya
  clear b0 b1 b2 b3 b4 b5 b6 b7 b8 b9 zb yb
  obtain ⟨V1, hV⟩ : ∃ W, W = ((w1).alloc (.cells #[.bool l.2.2.2.2, .int .i64 l.1, .int .i64 l.2.1, .int .u64 (l.2.2.1 : Int), .int .u64 (l.2.2.2.1 : Int)] 29)).alloc (.cells #[.bool r.2.2.2.2, .int .i64 r.1, .int .i64 r.2.1, .int .u64 (r.2.2.1 : Int), .int .u64 (r.2.2.2.1 : Int)] 29) := ⟨_, rfl⟩
  have OV : Ok w1 V1 := by rw [hV]; exact ((Ok.refl _).alloc _).alloc _
  have rg1 : Hid (V1.heap[w1.heap.size]? = some (.cells #[.bool l.2.2.2.2, .int .i64 l.1, .int .i64 l.2.1, .int .u64 (l.2.2.1 : Int), .int .u64 (l.2.2.2.1 : Int)] 29)) := by unfold Hid; rw [hV]; exact (by repeat (first | (refine heap_at _ _ _ ?hx; case hx => (first | (simp; done) | (simp; omega))) | (refine heap_past _ _ _ ?hy ?_; case hy => (first | (simp; done) | (simp; omega))) | fail))
  have rg2 : Hid (V1.heap[w1.heap.size + 1]? = some (.cells #[.bool r.2.2.2.2, .int .i64 r.1, .int .i64 r.2.1, .int .u64 (r.2.2.1 : Int), .int .u64 (r.2.2.2.1 : Int)] 29)) := by unfold Hid; rw [hV]; exact (by repeat (first | (refine heap_at _ _ _ ?hx; case hx => (first | (simp; done) | (simp; omega))) | (refine heap_past _ _ _ ?hy ?_; case hy => (first | (simp; done) | (simp; omega))) | fail))
  rw [← hV]
  replace ra : Hid _ := Ok.row' OV ra.out
  replace rb : Hid _ := Ok.row' OV rb.out
  have HV1 : Hid (Ok w0 V1) := Hw1.out.step OV
  obtain ⟨g2, e2⟩ : ∃ g, g = w1.heap.size + 1 := ⟨_, rfl⟩
  rw [← e2] at rg2 ⊢
  obtain ⟨g1, e1⟩ : ∃ g, g = w1.heap.size := ⟨_, rfl⟩
  rw [← e1] at rg1 ⊢
  clear hV OV e1 e2
  refine (rCompare_any op HO.out a b HU.out.1 HU.out.2 V1 _ (Ok.refl _)).mono ?_
  rintro e w2 ⟨rfl, hb⟩
  replace ra : Hid _ := Ok.row' hb ra.out
  replace rb : Hid _ := Ok.row' hb rb.out
  replace rg1 : Hid _ := Ok.row' hb rg1.out
  replace rg2 : Hid _ := Ok.row' hb rg2.out
  have Hw2 : Hid (Ok w0 w2) := HV1.out.step hb
  clear hb
  rw [HL.out, HR.out]
  unfold nv
  go_wp2_with fail
  obtain ⟨V2, hV⟩ : ∃ W, W = ((w2).alloc (.cells #[.bool l.2.2.2.2, .int .i64 l.1, .int .i64 l.2.1, .int .u64 (l.2.2.1 : Int), .int .u64 (l.2.2.2.1 : Int)] 29)).alloc (.cells #[.bool r.2.2.2.2, .int .i64 r.1, .int .i64 r.2.1, .int .u64 (r.2.2.1 : Int), .int .u64 (r.2.2.2.1 : Int)] 29) := ⟨_, rfl⟩
  have OV : Ok w2 V2 := by rw [hV]; exact ((Ok.refl _).alloc _).alloc _
  have rg3 : Hid (V2.heap[w2.heap.size]? = some (.cells #[.bool l.2.2.2.2, .int .i64 l.1, .int .i64 l.2.1, .int .u64 (l.2.2.1 : Int), .int .u64 (l.2.2.2.1 : Int)] 29)) := by unfold Hid; rw [hV]; exact (by repeat (first | (refine heap_at _ _ _ ?hx; case hx => (first | (simp; done) | (simp; omega))) | (refine heap_past _ _ _ ?hy ?_; case hy => (first | (simp; done) | (simp; omega))) | fail))
  have rg4 : Hid (V2.heap[w2.heap.size + 1]? = some (.cells #[.bool r.2.2.2.2, .int .i64 r.1, .int .i64 r.2.1, .int .u64 (r.2.2.1 : Int), .int .u64 (r.2.2.2.1 : Int)] 29)) := by unfold Hid; rw [hV]; exact (by repeat (first | (refine heap_at _ _ _ ?hx; case hx => (first | (simp; done) | (simp; omega))) | (refine heap_past _ _ _ ?hy ?_; case hy => (first | (simp; done) | (simp; omega))) | fail))
  rw [← hV]
  replace ra : Hid _ := Ok.row' OV ra.out
  replace rb : Hid _ := Ok.row' OV rb.out
  replace rg1 : Hid _ := Ok.row' OV rg1.out
  replace rg2 : Hid _ := Ok.row' OV rg2.out
  have HV2 : Hid (Ok w0 V2) := Hw2.out.step OV
  obtain ⟨g4, e2⟩ : ∃ g, g = w2.heap.size + 1 := ⟨_, rfl⟩
  rw [← e2] at rg4 ⊢
  obtain ⟨g3, e1⟩ : ∃ g, g = w2.heap.size := ⟨_, rfl⟩
  rw [← e1] at rg3 ⊢
  clear hV OV e1 e2
  refine (vNegate_any op HO.out V2 _ (Ok.refl _)).mono ?_
  rintro e w3 ⟨rfl, hb⟩
  replace rg1 : Hid _ := Ok.row' hb rg1.out
  replace rg2 : Hid _ := Ok.row' hb rg2.out
  replace rg3 : Hid _ := Ok.row' hb rg3.out
  replace rg4 : Hid _ := Ok.row' hb rg4.out
  have Hw3 : Hid (Ok w0 w3) := HV2.out.step hb
  clear hb
  rw [HN.out]
  go_wp2_with fail
  refine (rNegate_any op HO.out w3 _ (Ok.refl _)).mono ?_
  rintro e w4 ⟨rfl, hb⟩
  replace rg1 : Hid _ := Ok.row' hb rg1.out
  replace rg2 : Hid _ := Ok.row' hb rg2.out
  replace rg3 : Hid _ := Ok.row' hb rg3.out
  replace rg4 : Hid _ := Ok.row' hb rg4.out
  have Hw4 : Hid (Ok w0 w4) := Hw3.out.step hb
  clear hb
  rw [HN.out]
  obtain ⟨a0, a1, a2, a3, a4, a5, a6, a7, a8, a9⟩ := row5_facts rg1.out
  obtain ⟨b0, b1, b2, b3, b4, b5, b6, b7, b8, b9⟩ := row5_facts rg2.out
  obtain ⟨c0, c1, c2, c3, c4, c5, c6, c7, c8, c9⟩ := row5_facts rg3.out
  obtain ⟨d0, d1, d2, d3, d4, d5, d6, d7, d8, d9⟩ := row5_facts rg4.out
  go_wp2_with fail
  clear a0 a1 a2 a3 a4 a5 a6 a7 a8 a9 b0 b1 b2 b3 b4 b5 b6 b7 b8 b9 c0 c1 c2 c3 c4 c5 c6 c7 c8 c9 d0 d1 d2 d3 d4 d5 d6 d7 d8 d9
  refine (taken14 w4 _ (Ok.refl _)).mono ?_
  rintro e w5 ⟨rfl, hb⟩
  have Hw5 : Hid (Ok w0 w5) := Hw4.out.step hb
  clear hb
  go_wp2_with fail
  go_ret
  exact ⟨rfl, Hw5.out⟩
set_option maxRecDepth 100000 in
set_option maxHeartbeats 8000000 in
theorem compares_no (op : Int) (ho : ¬ OpC op) (a b : Int × Int × Nat × Nat × Bool) (ha : RawN a) (hb : RawN b) (w0 w : World) (hok : Ok w0 w) :
    Calls Tryz.prog 3 #[.int .i64 op, nv a, nv b] w fun e w' => e = .returned (.bool true) ∧ Ok w0 w' := by
  have hle := hok.le
  have HU : Hid (RawN a ∧ RawN b) := ⟨ha, hb⟩
  have HO : Hid (¬ OpC op) := ho
  clear ha hb ho
  unfold nv
  go_enter Tryz.func3, Tryz.ntmps3
  go_wp2_with fail
  obtain ⟨W, hW⟩ : ∃ W, W = ((w).alloc (.cells #[.bool a.2.2.2.2, .int .i64 a.1, .int .i64 a.2.1, .int .u64 (a.2.2.1 : Int), .int .u64 (a.2.2.2.1 : Int)] 29)).alloc (.cells #[.bool b.2.2.2.2, .int .i64 b.1, .int .i64 b.2.1, .int .u64 (b.2.2.1 : Int), .int .u64 (b.2.2.2.1 : Int)] 29) := ⟨_, rfl⟩
  have ra : Hid (W.heap[w.heap.size]? = some (.cells #[.bool a.2.2.2.2, .int .i64 a.1, .int .i64 a.2.1, .int .u64 (a.2.2.1 : Int), .int .u64 (a.2.2.2.1 : Int)] 29)) := by unfold Hid; rw [hW]; exact (by repeat (first | (refine heap_at _ _ _ ?hx; case hx => (first | (simp; done) | (simp; omega))) | (refine heap_past _ _ _ ?hy ?_; case hy => (first | (simp; done) | (simp; omega))) | fail))
  have rb : Hid (W.heap[w.heap.size + 1]? = some (.cells #[.bool b.2.2.2.2, .int .i64 b.1, .int .i64 b.2.1, .int .u64 (b.2.2.1 : Int), .int .u64 (b.2.2.2.1 : Int)] 29)) := by unfold Hid; rw [hW]; exact (by repeat (first | (refine heap_at _ _ _ ?hx; case hx => (first | (simp; done) | (simp; omega))) | (refine heap_past _ _ _ ?hy ?_; case hy => (first | (simp; done) | (simp; omega))) | fail))
  have HW : Hid (Ok w0 W) := by unfold Hid; rw [hW]; exact (by repeat (first | exact hok | refine Ok.alloc ?_ _ | refine Ok.draws ?_ _ | fail))
  rw [← hW]
  clear hW
  obtain ⟨gb, egb⟩ : ∃ g, g = w.heap.size + 1 := ⟨_, rfl⟩
  rw [← egb] at rb ⊢
  obtain ⟨ga, ega⟩ : ∃ g, g = w.heap.size := ⟨_, rfl⟩
  rw [← ega] at ra ⊢
  have lga : w0.heap.size ≤ ga := by omega
  have ngagb : ¬ ga = gb := by omega
  have lgb : w0.heap.size ≤ gb := by omega
  have ngbga : ¬ gb = ga := by omega
  clear ega egb
  refine (vCompare_no op HO.out a b HU.out.1 HU.out.2 W _ (Ok.refl _)).mono ?_
  rintro e w1 ⟨rfl, hb⟩
  replace ra : Hid _ := Ok.row' hb ra.out
  replace rb : Hid _ := Ok.row' hb rb.out
  have Hw1 : Hid (Ok w0 w1) := HW.out.step hb
  clear hb
  unfold nv botN
  obtain ⟨a0, a1, a2, a3, a4, a5, a6, a7, a8, a9⟩ := row5_facts ra.out
  have za := lt_row ra.out
  have ya : ga < w1.heap.size + 1 := by omega
  obtain ⟨b0, b1, b2, b3, b4, b5, b6, b7, b8, b9⟩ := row5_facts rb.out
  have zb := lt_row rb.out
  have yb : gb < w1.heap.size + 1 := by omega
  go_wp2_with fail
  clear a0 a1 a2 a3 a4 a5 a6 a7 a8 a9 za ya
  clear b0 b1 b2 b3 b4 b5 b6 b7 b8 b9 zb yb
  obtain ⟨V1, hV⟩ : ∃ W, W = ((w1).alloc (.cells #[.bool true, .int .i64 0, .int .i64 0, .int .u64 0, .int .u64 0] 29)).alloc (.cells #[.bool true, .int .i64 0, .int .i64 0, .int .u64 0, .int .u64 0] 29) := ⟨_, rfl⟩
  have OV : Ok w1 V1 := by rw [hV]; exact ((Ok.refl _).alloc _).alloc _
  have rg1 : Hid (V1.heap[w1.heap.size]? = some (.cells #[.bool true, .int .i64 0, .int .i64 0, .int .u64 0, .int .u64 0] 29)) := by unfold Hid; rw [hV]; exact (by repeat (first | (refine heap_at _ _ _ ?hx; case hx => (first | (simp; done) | (simp; omega))) | (refine heap_past _ _ _ ?hy ?_; case hy => (first | (simp; done) | (simp; omega))) | fail))
  have rg2 : Hid (V1.heap[w1.heap.size + 1]? = some (.cells #[.bool true, .int .i64 0, .int .i64 0, .int .u64 0, .int .u64 0] 29)) := by unfold Hid; rw [hV]; exact (by repeat (first | (refine heap_at _ _ _ ?hx; case hx => (first | (simp; done) | (simp; omega))) | (refine heap_past _ _ _ ?hy ?_; case hy => (first | (simp; done) | (simp; omega))) | fail))
  rw [← hV]
  replace ra : Hid _ := Ok.row' OV ra.out
  replace rb : Hid _ := Ok.row' OV rb.out
  have HV1 : Hid (Ok w0 V1) := Hw1.out.step OV
  obtain ⟨g2, e2⟩ : ∃ g, g = w1.heap.size + 1 := ⟨_, rfl⟩
  rw [← e2] at rg2 ⊢
  obtain ⟨g1, e1⟩ : ∃ g, g = w1.heap.size := ⟨_, rfl⟩
  rw [← e1] at rg1 ⊢
  clear hV OV e1 e2
  refine (rCompare_no op HO.out a b HU.out.1 HU.out.2 V1 _ (Ok.refl _)).mono ?_
  rintro e w2 ⟨rfl, hb⟩
  replace ra : Hid _ := Ok.row' hb ra.out
  replace rb : Hid _ := Ok.row' hb rb.out
  replace rg1 : Hid _ := Ok.row' hb rg1.out
  replace rg2 : Hid _ := Ok.row' hb rg2.out
  have Hw2 : Hid (Ok w0 w2) := HV1.out.step hb
  clear hb
  unfold nv botN
  go_wp2_with fail
  obtain ⟨V2, hV⟩ : ∃ W, W = ((w2).alloc (.cells #[.bool true, .int .i64 0, .int .i64 0, .int .u64 0, .int .u64 0] 29)).alloc (.cells #[.bool true, .int .i64 0, .int .i64 0, .int .u64 0, .int .u64 0] 29) := ⟨_, rfl⟩
  have OV : Ok w2 V2 := by rw [hV]; exact ((Ok.refl _).alloc _).alloc _
  have rg3 : Hid (V2.heap[w2.heap.size]? = some (.cells #[.bool true, .int .i64 0, .int .i64 0, .int .u64 0, .int .u64 0] 29)) := by unfold Hid; rw [hV]; exact (by repeat (first | (refine heap_at _ _ _ ?hx; case hx => (first | (simp; done) | (simp; omega))) | (refine heap_past _ _ _ ?hy ?_; case hy => (first | (simp; done) | (simp; omega))) | fail))
  have rg4 : Hid (V2.heap[w2.heap.size + 1]? = some (.cells #[.bool true, .int .i64 0, .int .i64 0, .int .u64 0, .int .u64 0] 29)) := by unfold Hid; rw [hV]; exact (by repeat (first | (refine heap_at _ _ _ ?hx; case hx => (first | (simp; done) | (simp; omega))) | (refine heap_past _ _ _ ?hy ?_; case hy => (first | (simp; done) | (simp; omega))) | fail))
  rw [← hV]
  replace ra : Hid _ := Ok.row' OV ra.out
  replace rb : Hid _ := Ok.row' OV rb.out
  replace rg1 : Hid _ := Ok.row' OV rg1.out
  replace rg2 : Hid _ := Ok.row' OV rg2.out
  have HV2 : Hid (Ok w0 V2) := Hw2.out.step OV
  obtain ⟨g4, e2⟩ : ∃ g, g = w2.heap.size + 1 := ⟨_, rfl⟩
  rw [← e2] at rg4 ⊢
  obtain ⟨g3, e1⟩ : ∃ g, g = w2.heap.size := ⟨_, rfl⟩
  rw [← e1] at rg3 ⊢
  clear hV OV e1 e2
  refine (vNegate_no op HO.out V2 _ (Ok.refl _)).mono ?_
  rintro e w3 ⟨rfl, hb⟩
  replace rg1 : Hid _ := Ok.row' hb rg1.out
  replace rg2 : Hid _ := Ok.row' hb rg2.out
  replace rg3 : Hid _ := Ok.row' hb rg3.out
  replace rg4 : Hid _ := Ok.row' hb rg4.out
  have Hw3 : Hid (Ok w0 w3) := HV2.out.step hb
  clear hb
  go_wp2_with fail
  refine (rNegate_no op HO.out w3 _ (Ok.refl _)).mono ?_
  rintro e w4 ⟨rfl, hb⟩
  replace rg1 : Hid _ := Ok.row' hb rg1.out
  replace rg2 : Hid _ := Ok.row' hb rg2.out
  replace rg3 : Hid _ := Ok.row' hb rg3.out
  replace rg4 : Hid _ := Ok.row' hb rg4.out
  have Hw4 : Hid (Ok w0 w4) := Hw3.out.step hb
  clear hb
  obtain ⟨a0, a1, a2, a3, a4, a5, a6, a7, a8, a9⟩ := row5_facts rg1.out
  obtain ⟨b0, b1, b2, b3, b4, b5, b6, b7, b8, b9⟩ := row5_facts rg2.out
  obtain ⟨c0, c1, c2, c3, c4, c5, c6, c7, c8, c9⟩ := row5_facts rg3.out
  obtain ⟨d0, d1, d2, d3, d4, d5, d6, d7, d8, d9⟩ := row5_facts rg4.out
  go_wp2_with fail
  clear a0 a1 a2 a3 a4 a5 a6 a7 a8 a9 b0 b1 b2 b3 b4 b5 b6 b7 b8 b9 c0 c1 c2 c3 c4 c5 c6 c7 c8 c9 d0 d1 d2 d3 d4 d5 d6 d7 d8 d9
  refine (taken14 w4 _ (Ok.refl _)).mono ?_
  rintro e w5 ⟨rfl, hb⟩
  have Hw5 : Hid (Ok w0 w5) := Hw4.out.step hb
  clear hb
  go_wp2_with fail
  go_ret
  exact ⟨rfl, Hw5.out⟩
theorem compares_any (op : Int) (a b : Int × Int × Nat × Nat × Bool) (ha : RawN a) (hb : RawN b) (w0 w : World) (hok : Ok w0 w) :
    Calls Tryz.prog 3 #[.int .i64 op, nv a, nv b] w fun e w' => e = .returned (.bool true) ∧ Ok w0 w' := by
  by_cases ho : OpC op
  · exact compares_yes op ho a b ha hb w0 w hok
  · exact compares_no op ho a b ha hb w0 w hok
end Go.Proofs.YtbkblijoimmdeaaGreat
