import Derived.Deep.Cut
import Derived.Deep.CutRange
import Derived.Test.YtbkblijoimmdeaaGreatKVn
set_option linter.unusedVariables false
set_option linter.unusedSimpArgs false
set_option linter.unnecessarySimpa false
/- Vr -/
namespace Go.Proofs.YtbkblijoimmdeaaGreat
open Go.RowKit Go.Shelf
theorem clip_from {v : Int} (h : In64 v) : clipN v 9223372036854775807 = makeN v 9223372036854775807 1 0 := by
  unfold In64 at h
  unfold clipN
  rw [if_neg (by omega), if_neg (by omega), if_neg (by omega)]
theorem clip_to {v : Int} (h : In64 v) : clipN (-9223372036854775808) v = makeN (-9223372036854775808) v 1 0 := by
  unfold In64 at h
  unfold clipN
  rw [if_neg (by omega), if_neg (by omega), if_neg (by omega)]
theorem field_bot (a b c d e : Value) (w : World) : (Instr.field 29 (.agg #[a, b, c, d, e]) 0).run Tryz.prog w = .ok a w := by kernel_rfl

set_option maxRecDepth 100000 in
set_option maxHeartbeats 4000000 in
theorem rfrom_any (v : Int) (hv : In64 v) (w0 w : World) (hok : Ok w0 w) :
    Calls Tryz.prog 18 #[.int .i64 v] w fun e w' => e = .returned (nv (clipN v 9223372036854775807)) ∧ Ok w0 w' := by
  have hle := hok.le
  have HV : Hid _ := hv
  clear hv
  rw [clip_from HV.out]
  obtain ⟨c, hc⟩ : ∃ t, t = makeN v 9223372036854775807 1 0 := ⟨_, rfl⟩
  rw [← hc]
  have HC : Hid _ := hc
  clear hc
  go_enter Tryz.func18, Tryz.ntmps18
  go_wp2_with fail
  obtain ⟨W, hW⟩ : ∃ W, W = (w).alloc (.cells #[.bool false, .int .i64 0, .int .i64 0, .int .u64 0, .int .u64 0] 29) := ⟨_, rfl⟩
  have rz : Hid (W.heap[w.heap.size]? = some (.cells #[.bool false, .int .i64 0, .int .i64 0, .int .u64 0, .int .u64 0] 29)) := by unfold Hid; rw [hW]; exact (by repeat (first | (refine heap_at _ _ _ ?hx; case hx => (first | (simp; done) | (simp; omega))) | (refine heap_past _ _ _ ?hy ?_; case hy => (first | (simp; done) | (simp; omega))) | fail))
  have HW : Hid (Ok w0 W) := by unfold Hid; rw [hW]; exact (by repeat (first | exact hok | refine Ok.alloc ?_ _ | refine Ok.draws ?_ _ | fail))
  rw [← hW]
  clear hW
  refine (rrange_any v 9223372036854775807 HV.out max_in W _ (by repeat (first | exact Ok.refl _ | refine Ok.alloc ?_ _ | refine Ok.draws ?_ _ | fail))).mono ?_
  rintro e w1 ⟨rfl, hb⟩
  have hr : Hid _ := Ok.row' hb rz.out
  obtain ⟨k0, k1, k2, k3, k4, k5, k6, k7, k8, k9⟩ := row5_facts hr.out
  rw [← HC.out]
  unfold nv
  go_wp2_with fail
  (try simp only [Exit.inBlock, Exit.then]); refine bodyPost_ret (results_cell_row rfl _ _ (w.heap.size) 29 #[_, _, _, _, _] (0, 0) _ rfl (row_set5 hr.out _ _ _ _ _) Tryz.underlying29 rfl infoN) rfl ?_
  exact ⟨rfl, Ok.set (Ok.set (Ok.set (Ok.set (Ok.set (HW.out.step hb) (show w0.heap.size ≤ w.heap.size by omega) _) (show w0.heap.size ≤ w.heap.size by omega) _) (show w0.heap.size ≤ w.heap.size by omega) _) (show w0.heap.size ≤ w.heap.size by omega) _) (show w0.heap.size ≤ w.heap.size by omega) _⟩
set_option maxRecDepth 100000 in
set_option maxHeartbeats 4000000 in
theorem rto_any (v : Int) (hv : In64 v) (w0 w : World) (hok : Ok w0 w) :
    Calls Tryz.prog 17 #[.int .i64 v] w fun e w' => e = .returned (nv (clipN (-9223372036854775808) v)) ∧ Ok w0 w' := by
  have hle := hok.le
  have HV : Hid _ := hv
  clear hv
  rw [clip_to HV.out]
  obtain ⟨c, hc⟩ : ∃ t, t = makeN (-9223372036854775808) v 1 0 := ⟨_, rfl⟩
  rw [← hc]
  have HC : Hid _ := hc
  clear hc
  go_enter Tryz.func17, Tryz.ntmps17
  go_wp2_with fail
  obtain ⟨W, hW⟩ : ∃ W, W = (w).alloc (.cells #[.bool false, .int .i64 0, .int .i64 0, .int .u64 0, .int .u64 0] 29) := ⟨_, rfl⟩
  have rz : Hid (W.heap[w.heap.size]? = some (.cells #[.bool false, .int .i64 0, .int .i64 0, .int .u64 0, .int .u64 0] 29)) := by unfold Hid; rw [hW]; exact (by repeat (first | (refine heap_at _ _ _ ?hx; case hx => (first | (simp; done) | (simp; omega))) | (refine heap_past _ _ _ ?hy ?_; case hy => (first | (simp; done) | (simp; omega))) | fail))
  have HW : Hid (Ok w0 W) := by unfold Hid; rw [hW]; exact (by repeat (first | exact hok | refine Ok.alloc ?_ _ | refine Ok.draws ?_ _ | fail))
  rw [← hW]
  clear hW
  refine (rrange_any (-9223372036854775808) v min_in HV.out W _ (by repeat (first | exact Ok.refl _ | refine Ok.alloc ?_ _ | refine Ok.draws ?_ _ | fail))).mono ?_
  rintro e w1 ⟨rfl, hb⟩
  have hr : Hid _ := Ok.row' hb rz.out
  obtain ⟨k0, k1, k2, k3, k4, k5, k6, k7, k8, k9⟩ := row5_facts hr.out
  rw [← HC.out]
  unfold nv
  go_wp2_with fail
  (try simp only [Exit.inBlock, Exit.then]); refine bodyPost_ret (results_cell_row rfl _ _ (w.heap.size) 29 #[_, _, _, _, _] (0, 0) _ rfl (row_set5 hr.out _ _ _ _ _) Tryz.underlying29 rfl infoN) rfl ?_
  exact ⟨rfl, Ok.set (Ok.set (Ok.set (Ok.set (Ok.set (HW.out.step hb) (show w0.heap.size ≤ w.heap.size by omega) _) (show w0.heap.size ≤ w.heap.size by omega) _) (show w0.heap.size ≤ w.heap.size by omega) _) (show w0.heap.size ≤ w.heap.size by omega) _) (show w0.heap.size ≤ w.heap.size by omega) _⟩
set_option maxRecDepth 100000 in
set_option maxHeartbeats 4000000 in
theorem rbot14_any (a : Int × Int × Nat × Nat × Bool) (ha : RawN a) (w0 w : World) (hok : Ok w0 w) :
    Calls Tryz.prog 13 #[nv a] w fun e w' => e = .returned (.bool (normN a).2.2.2.2) ∧ Ok w0 w' := by
  have hle := hok.le
  have HU : Hid _ := ha
  clear ha
  obtain ⟨x, hx⟩ : ∃ t, t = normN a := ⟨_, rfl⟩
  rw [← hx]
  have HX : Hid _ := hx
  clear hx
  have hfb := field_bot
  unfold nv
  go_enter Tryz.func13, Tryz.ntmps13
  go_wp2_with fail
  obtain ⟨W, hW⟩ : ∃ W, W = (w).alloc (.cells #[.bool a.2.2.2.2, .int .i64 a.1, .int .i64 a.2.1, .int .u64 (a.2.2.1 : Int), .int .u64 (a.2.2.2.1 : Int)] 29) := ⟨_, rfl⟩
  have HW : Hid (Ok w0 W) := by unfold Hid; rw [hW]; exact (by repeat (first | exact hok | refine Ok.alloc ?_ _ | refine Ok.draws ?_ _ | fail))
  rw [← hW]
  clear hW
  refine (rnorm_any a HU.out W _ (Ok.refl _)).mono ?_
  rintro e w1 ⟨rfl, hb⟩
  rw [← HX.out]
  unfold nv
  have Hw1 : Hid (Ok w0 w1) := HW.out.step hb
  clear hb HW
  go_wp2_with fail
  go_ret
  exact ⟨rfl, Hw1.out⟩
set_option maxRecDepth 100000 in
set_option maxHeartbeats 4000000 in
theorem rone_any (a : Int × Int × Nat × Nat × Bool) (w0 w : World) (hok : Ok w0 w) :
    Calls Tryz.prog 19 #[nv a] w fun e w' => e = .returned (.bool (oneN a)) ∧ Ok w0 w' := by
  have hle := hok.le
  obtain ⟨l, h, M, R, B⟩ := a
  obtain ⟨o, ho⟩ : ∃ t, t = oneN (l, h, M, R, B) := ⟨_, rfl⟩
  rw [← ho]
  have HO : Hid _ := ho
  clear ho
  unfold nv
  simp only
  cases B
  · by_cases he : l = h
    · have E : Hid (o = true) := by unfold Hid; rw [HO.out]; unfold oneN; simp [he]
      clear HO
      have k : decide (l = h) = true := by simpa using he
      have k2 : (l == h) = true := by simpa using he
      clear he
      go_enter Tryz.func19, Tryz.ntmps19
      go_wp2_with fail
      go_ret
      exact ⟨by rw [E.out]; rfl, hok.alloc _⟩
    · have E : Hid (o = false) := by unfold Hid; rw [HO.out]; unfold oneN; simp [he]
      clear HO
      have k : decide (l = h) = false := by simpa using he
      have k2 : (l == h) = false := by simpa using he
      clear he
      go_enter Tryz.func19, Tryz.ntmps19
      go_wp2_with fail
      go_ret
      exact ⟨by rw [E.out]; rfl, hok.alloc _⟩
  · have E : Hid (o = false) := by unfold Hid; rw [HO.out]; unfold oneN; simp
    clear HO
    go_enter Tryz.func19, Tryz.ntmps19
    go_wp2_with fail
    go_ret
    exact ⟨by rw [E.out]; rfl, hok.alloc _⟩
set_option maxRecDepth 100000 in
set_option maxHeartbeats 4000000 in
theorem rboth_any (l r : Int × Int × Nat × Nat × Bool) (w0 w : World) (hok : Ok w0 w) :
    Calls Tryz.prog 15 #[nv l, nv r] w fun e w' => e = .returned (.tuple #[nv (ansN l r).1, nv (ansN l r).2, .int .i64 0]) ∧ Ok w0 w' := by
  have hle := hok.le
  obtain ⟨A, hA⟩ : ∃ t, t = ansN l r := ⟨_, rfl⟩
  rw [← hA]
  have HA : Hid _ := hA
  clear hA
  unfold nv
  go_enter Tryz.func15, Tryz.ntmps15
  go_upto_region 1 with (fail)
  obtain ⟨Z, hZ⟩ : ∃ W, W = ((((w).alloc (.cells #[.bool l.2.2.2.2, .int .i64 l.1, .int .i64 l.2.1, .int .u64 (l.2.2.1 : Int), .int .u64 (l.2.2.2.1 : Int)] 29)).alloc (.cells #[.bool r.2.2.2.2, .int .i64 r.1, .int .i64 r.2.1, .int .u64 (r.2.2.1 : Int), .int .u64 (r.2.2.2.1 : Int)] 29)).alloc (.cells #[.bool false, .int .i64 0, .int .i64 0, .int .u64 0, .int .u64 0] 29)).alloc (.cells #[.bool false, .int .i64 0, .int .i64 0, .int .u64 0, .int .u64 0] 29) := ⟨_, rfl⟩
  have rl : Hid (Z.heap[w.heap.size]? = some (.cells #[.bool l.2.2.2.2, .int .i64 l.1, .int .i64 l.2.1, .int .u64 (l.2.2.1 : Int), .int .u64 (l.2.2.2.1 : Int)] 29)) := by unfold Hid; rw [hZ]; exact (by repeat (first | (refine heap_at _ _ _ ?hx; case hx => (first | (simp; done) | (simp; omega))) | (refine heap_past _ _ _ ?hy ?_; case hy => (first | (simp; done) | (simp; omega))) | fail))
  have rr : Hid (Z.heap[w.heap.size + 1]? = some (.cells #[.bool r.2.2.2.2, .int .i64 r.1, .int .i64 r.2.1, .int .u64 (r.2.2.1 : Int), .int .u64 (r.2.2.2.1 : Int)] 29)) := by unfold Hid; rw [hZ]; exact (by repeat (first | (refine heap_at _ _ _ ?hx; case hx => (first | (simp; done) | (simp; omega))) | (refine heap_past _ _ _ ?hy ?_; case hy => (first | (simp; done) | (simp; omega))) | fail))
  have rp : Hid (Z.heap[w.heap.size + 1 + 1]? = some (.cells #[.bool false, .int .i64 0, .int .i64 0, .int .u64 0, .int .u64 0] 29)) := by unfold Hid; rw [hZ]; exact (by repeat (first | (refine heap_at _ _ _ ?hx; case hx => (first | (simp; done) | (simp; omega))) | (refine heap_past _ _ _ ?hy ?_; case hy => (first | (simp; done) | (simp; omega))) | fail))
  have rq : Hid (Z.heap[w.heap.size + 1 + 1 + 1]? = some (.cells #[.bool false, .int .i64 0, .int .i64 0, .int .u64 0, .int .u64 0] 29)) := by unfold Hid; rw [hZ]; exact (by repeat (first | (refine heap_at _ _ _ ?hx; case hx => (first | (simp; done) | (simp; omega))) | (refine heap_past _ _ _ ?hy ?_; case hy => (first | (simp; done) | (simp; omega))) | fail))
  have HZ : Hid (Ok w0 Z) := by unfold Hid; rw [hZ]; exact (by repeat (first | exact hok | refine Ok.alloc ?_ _ | refine Ok.draws ?_ _ | fail))
  rw [← hZ]
  clear hZ
  obtain ⟨gq, egq⟩ : ∃ g, g = w.heap.size + 1 + 1 + 1 := ⟨_, rfl⟩
  rw [← egq] at rq ⊢
  obtain ⟨gp, egp⟩ : ∃ g, g = w.heap.size + 1 + 1 := ⟨_, rfl⟩
  rw [← egp] at rp ⊢
  obtain ⟨gr, egr⟩ : ∃ g, g = w.heap.size + 1 := ⟨_, rfl⟩
  rw [← egr] at rr ⊢
  obtain ⟨gl, egl⟩ : ∃ g, g = w.heap.size := ⟨_, rfl⟩
  rw [← egl] at rl ⊢
  have lgl : w0.heap.size ≤ gl := by omega
  have nglgr : ¬ gl = gr := by omega
  have nglgp : ¬ gl = gp := by omega
  have nglgq : ¬ gl = gq := by omega
  have lgr : w0.heap.size ≤ gr := by omega
  have ngrgl : ¬ gr = gl := by omega
  have ngrgp : ¬ gr = gp := by omega
  have ngrgq : ¬ gr = gq := by omega
  have lgp : w0.heap.size ≤ gp := by omega
  have ngpgl : ¬ gp = gl := by omega
  have ngpgr : ¬ gp = gr := by omega
  have ngpgq : ¬ gp = gq := by omega
  have lgq : w0.heap.size ≤ gq := by omega
  have ngqgl : ¬ gq = gl := by omega
  have ngqgr : ¬ gq = gr := by omega
  have ngqgp : ¬ gq = gp := by omega
  clear egl egr egp egq
  obtain ⟨a0, a1, a2, a3, a4, a5, a6, a7, a8, a9⟩ := row5_facts rl.out
  obtain ⟨b0, b1, b2, b3, b4, b5, b6, b7, b8, b9⟩ := row5_facts rr.out
  obtain ⟨k0, k1, k2, k3, k4, k5, k6, k7, k8, k9⟩ := row5_facts rp.out
  obtain ⟨j0, j1, j2, j3, j4, j5, j6, j7, j8, j9⟩ := row5_facts rq.out
  cases hlb : l.2.2.2.2
  · rw [hlb] at a0
    cases hrb : r.2.2.2.2
    · rw [hrb] at b0
      have EA : Hid (A = (l, r)) := by unfold Hid; rw [HA.out]; unfold ansN; rw [if_neg (by rw [hlb, hrb]; simp)]
      have HLB : Hid _ := hlb
      have HRB : Hid _ := hrb
      go_upto_region 3 with (fail)
      go_region
      go_wp2_with fail
      obtain ⟨Y, hY⟩ : ∃ V, V = ((((((((((Z.setCell ⟨gp, 0, none⟩ (.bool false)).setCell ⟨gp, 1, none⟩ (.int .i64 l.1)).setCell ⟨gp, 2, none⟩ (.int .i64 l.2.1)).setCell ⟨gp, 3, none⟩ (.int .u64 (l.2.2.1 : Int))).setCell ⟨gp, 4, none⟩ (.int .u64 (l.2.2.2.1 : Int))).setCell ⟨gq, 0, none⟩ (.bool false)).setCell ⟨gq, 1, none⟩ (.int .i64 r.1)).setCell ⟨gq, 2, none⟩ (.int .i64 r.2.1)).setCell ⟨gq, 3, none⟩ (.int .u64 (r.2.2.1 : Int))).setCell ⟨gq, 4, none⟩ (.int .u64 (r.2.2.2.1 : Int))) := ⟨_, rfl⟩
      have hp := rows_putr ngpgq rp.out rq.out HZ.out (by omega) (by omega) _ _ _ _ _ _ _ _ _ _ hY
      rw [← hY]
      clear hY
      have hd : Ok Y Y.drew := Below.drew (Ok.refl Y)
      refine bodyPost_ret (results_2ct rfl _ _ gp gq 29 #[_, _, _, _, _] #[_, _, _, _, _] (0, 0) _ rfl rfl (Ok.row' hd hp.2.1) (Ok.row' hd hp.2.2) Tryz.underlying29 rfl infoN infoN) rfl ?_
      exact ⟨by rw [EA.out]; (try unfold nv); simp only [HLB.out, HRB.out]; rfl, Below.drew hp.1⟩
    · rw [hrb] at b0
      have EA : Hid (A = (botN, botN)) := by unfold Hid; rw [HA.out]; unfold ansN; rw [if_pos (Or.inr hrb)]
      go_wp2_with fail
      refine (rbot_any Z _ (Ok.refl _)).mono ?_
      rintro e x1 ⟨rfl, hb⟩
      replace rp : Hid _ := Ok.row' hb rp.out
      replace rq : Hid _ := Ok.row' hb rq.out
      have Hx1 : Hid (Ok w0 x1) := HZ.out.step hb
      clear hb
      unfold nv botN
      go_wp2_with fail
      refine (rbot_any x1 _ (Ok.refl _)).mono ?_
      rintro e x2 ⟨rfl, hb⟩
      replace rp : Hid _ := Ok.row' hb rp.out
      replace rq : Hid _ := Ok.row' hb rq.out
      have Hx2 : Hid (Ok w0 x2) := Hx1.out.step hb
      clear hb
      unfold nv botN
      clear a0 a1 a2 a3 a4 a5 a6 a7 a8 a9 b0 b1 b2 b3 b4 b5 b6 b7 b8 b9 k0 k1 k2 k3 k4 k5 k6 k7 k8 k9 j0 j1 j2 j3 j4 j5 j6 j7 j8 j9
      obtain ⟨k0, k1, k2, k3, k4, k5, k6, k7, k8, k9⟩ := row5_facts rp.out
      obtain ⟨j0, j1, j2, j3, j4, j5, j6, j7, j8, j9⟩ := row5_facts rq.out
      go_wp2_with fail
      obtain ⟨Y, hY⟩ : ∃ Z, Z = ((((((((((x2.setCell ⟨gp, 0, none⟩ (.bool true)).setCell ⟨gp, 1, none⟩ (.int .i64 0)).setCell ⟨gp, 2, none⟩ (.int .i64 0)).setCell ⟨gp, 3, none⟩ (.int .u64 0)).setCell ⟨gp, 4, none⟩ (.int .u64 0)).setCell ⟨gq, 0, none⟩ (.bool true)).setCell ⟨gq, 1, none⟩ (.int .i64 0)).setCell ⟨gq, 2, none⟩ (.int .i64 0)).setCell ⟨gq, 3, none⟩ (.int .u64 0)).setCell ⟨gq, 4, none⟩ (.int .u64 0)) := ⟨_, rfl⟩
      have hp := rows_putr ngpgq rp.out rq.out Hx2.out (by omega) (by omega) _ _ _ _ _ _ _ _ _ _ hY
      rw [← hY]
      clear hY
      refine bodyPost_ret (results_2ct rfl _ _ gp gq 29 #[_, _, _, _, _] #[_, _, _, _, _] (0, 0) _ rfl rfl hp.2.1 hp.2.2 Tryz.underlying29 rfl infoN infoN) rfl ?_
      exact ⟨by rw [EA.out]; rfl, hp.1⟩
  · rw [hlb] at a0
    have EA : Hid (A = (botN, botN)) := by unfold Hid; rw [HA.out]; unfold ansN; rw [if_pos (Or.inl hlb)]
    go_wp2_with fail
    refine (rbot_any Z _ (Ok.refl _)).mono ?_
    rintro e x1 ⟨rfl, hb⟩
    replace rp : Hid _ := Ok.row' hb rp.out
    replace rq : Hid _ := Ok.row' hb rq.out
    have Hx1 : Hid (Ok w0 x1) := HZ.out.step hb
    clear hb
    unfold nv botN
    go_wp2_with fail
    refine (rbot_any x1 _ (Ok.refl _)).mono ?_
    rintro e x2 ⟨rfl, hb⟩
    replace rp : Hid _ := Ok.row' hb rp.out
    replace rq : Hid _ := Ok.row' hb rq.out
    have Hx2 : Hid (Ok w0 x2) := Hx1.out.step hb
    clear hb
    unfold nv botN
    clear a0 a1 a2 a3 a4 a5 a6 a7 a8 a9 b0 b1 b2 b3 b4 b5 b6 b7 b8 b9 k0 k1 k2 k3 k4 k5 k6 k7 k8 k9 j0 j1 j2 j3 j4 j5 j6 j7 j8 j9
    obtain ⟨k0, k1, k2, k3, k4, k5, k6, k7, k8, k9⟩ := row5_facts rp.out
    obtain ⟨j0, j1, j2, j3, j4, j5, j6, j7, j8, j9⟩ := row5_facts rq.out
    go_wp2_with fail
    obtain ⟨Y, hY⟩ : ∃ Z, Z = ((((((((((x2.setCell ⟨gp, 0, none⟩ (.bool true)).setCell ⟨gp, 1, none⟩ (.int .i64 0)).setCell ⟨gp, 2, none⟩ (.int .i64 0)).setCell ⟨gp, 3, none⟩ (.int .u64 0)).setCell ⟨gp, 4, none⟩ (.int .u64 0)).setCell ⟨gq, 0, none⟩ (.bool true)).setCell ⟨gq, 1, none⟩ (.int .i64 0)).setCell ⟨gq, 2, none⟩ (.int .i64 0)).setCell ⟨gq, 3, none⟩ (.int .u64 0)).setCell ⟨gq, 4, none⟩ (.int .u64 0)) := ⟨_, rfl⟩
    have hp := rows_putr ngpgq rp.out rq.out Hx2.out (by omega) (by omega) _ _ _ _ _ _ _ _ _ _ hY
    rw [← hY]
    clear hY
    refine bodyPost_ret (results_2ct rfl _ _ gp gq 29 #[_, _, _, _, _] #[_, _, _, _, _] (0, 0) _ rfl rfl hp.2.1 hp.2.2 Tryz.underlying29 rfl infoN infoN) rfl ?_
    exact ⟨by rw [EA.out]; rfl, hp.1⟩
set_option maxHeartbeats 4000000 in
theorem rNegate_any (op : Int) (ho : OpC op) (w0 w : World) (hok : Ok w0 w) :
    Calls Tryz.prog 7 #[.int .i64 op] w fun e w' => e = .returned (.tuple #[.int .i64 (negF op), .int .i64 0]) ∧ Ok w0 w' := by
  rcases ho with rfl | rfl | rfl | rfl | rfl | rfl
  · go_enter Tryz.func7, Tryz.ntmps7
    go_wp2_with fail
    refine bodyPost_ret (results_tmp2 rfl _ _ _) rfl ?_
    exact ⟨rfl, hok⟩
  · go_enter Tryz.func7, Tryz.ntmps7
    go_wp2_with fail
    refine bodyPost_ret (results_tmp2 rfl _ _ _) rfl ?_
    exact ⟨rfl, hok⟩
  · go_enter Tryz.func7, Tryz.ntmps7
    go_wp2_with fail
    refine bodyPost_ret (results_tmp2 rfl _ _ _) rfl ?_
    exact ⟨rfl, hok⟩
  · go_enter Tryz.func7, Tryz.ntmps7
    go_wp2_with fail
    refine bodyPost_ret (results_tmp2 rfl _ _ _) rfl ?_
    exact ⟨rfl, hok⟩
  · go_enter Tryz.func7, Tryz.ntmps7
    go_wp2_with fail
    refine bodyPost_ret (results_tmp2 rfl _ _ _) rfl ?_
    exact ⟨rfl, hok⟩
  · go_enter Tryz.func7, Tryz.ntmps7
    go_wp2_with fail
    refine bodyPost_ret (results_tmp2 rfl _ _ _) rfl ?_
    exact ⟨rfl, hok⟩
set_option maxHeartbeats 4000000 in
theorem rNegate_no (op : Int) (ho : ¬ OpC op) (w0 w : World) (hok : Ok w0 w) :
    Calls Tryz.prog 7 #[.int .i64 op] w fun e w' => e = .returned (.tuple #[.int .i64 0, .int .i64 1]) ∧ Ok w0 w' := by
  have k8 : (op == 8) = false := by rw [beq_eq_false_iff_ne]; intro h; exact ho (Or.inl h)
  have k9 : (op == 9) = false := by rw [beq_eq_false_iff_ne]; intro h; exact ho (Or.inr (Or.inl h))
  have k10 : (op == 10) = false := by rw [beq_eq_false_iff_ne]; intro h; exact ho (Or.inr (Or.inr (Or.inl h)))
  have k11 : (op == 11) = false := by rw [beq_eq_false_iff_ne]; intro h; exact ho (Or.inr (Or.inr (Or.inr (Or.inl h))))
  have k12 : (op == 12) = false := by rw [beq_eq_false_iff_ne]; intro h; exact ho (Or.inr (Or.inr (Or.inr (Or.inr (Or.inl h)))))
  have k13 : (op == 13) = false := by rw [beq_eq_false_iff_ne]; intro h; exact ho (Or.inr (Or.inr (Or.inr (Or.inr (Or.inr (h))))))
  clear ho
  go_enter Tryz.func7, Tryz.ntmps7
  go_wp2_with fail
  refine bodyPost_ret (results_tmp2 rfl _ _ _) rfl ?_
  exact ⟨rfl, hok⟩
end Go.Proofs.YtbkblijoimmdeaaGreat
