import Derived.Test.YtbkblijoimmdeaaGreatKNm
import Derived.Test.YtbkblijoimmdeaaGreatKVb
set_option linter.unusedVariables false
set_option linter.unusedSimpArgs false
set_option linter.unnecessarySimpa false
/- Vc -/
namespace Go.Proofs.YtbkblijoimmdeaaGreat
open Go.RowKit Go.Shelf
theorem clip_raw (a b : Int) : RawN (clipN a b) := by
  unfold clipN
  split
  · exact bot_raw
  · rename_i h
    refine make_raw ?_ ?_ u_one u_zero
    · unfold In64; split <;> omega
    · unfold In64; split <;> omega
theorem v126_in {z : Int} (h : In64 z) : V126 z := by unfold In64 at h; unfold V126; omega
/-- a's numbers below v; above v. -/
def belN (a : Int × Int × Nat × Nat × Bool) (v : Int) : Int × Int × Nat × Nat × Bool := meetN a (clipN (-9223372036854775808) (v + -1))
def aboN (a : Int × Int × Nat × Nat × Bool) (v : Int) : Int × Int × Nat × Nat × Bool := meetN a (clipN (v + 1) 9223372036854775807)
theorem abo_raw {a : Int × Int × Nat × Nat × Bool} (ha : RawN a) (v : Int) : RawN (aboN a v) := meetN_raw ha (clip_raw _ _)
/-- a's one number; is it one? -/
def oneN (a : Int × Int × Nat × Nat × Bool) : Bool := !a.2.2.2.2 && decide (a.1 = a.2.1)

set_option maxRecDepth 100000 in
set_option maxHeartbeats 4000000 in
theorem vfrom_any (z : Int) (w0 w : World) (hok : Ok w0 w) :
    Calls Tryz.prog 33 #[wvv z] w fun e w' => e = .returned (nv (clipN z 9223372036854775807)) ∧ Ok w0 w' := by
  have hle := hok.le
  obtain ⟨c, hc⟩ : ∃ t, t = clipN z 9223372036854775807 := ⟨_, rfl⟩
  rw [← hc]
  have HC : Hid _ := hc
  clear hc
  obtain ⟨m, hm⟩ : ∃ t : Int, t = 9223372036854775807 := ⟨_, rfl⟩
  have HM : Hid _ := hm
  clear hm
  unfold wvv
  go_enter Tryz.func33, Tryz.ntmps33
  go_wp2_with fail
  obtain ⟨W, hW⟩ : ∃ W, W = ((w).alloc (.cells #[.int .i64 (hiW z), .int .u64 (loW z)] 54)).alloc (.cells #[.bool false, .int .i64 0, .int .i64 0, .int .u64 0, .int .u64 0] 29) := ⟨_, rfl⟩
  have ra : Hid (W.heap[w.heap.size]? = some (.cells #[.int .i64 (hiW z), .int .u64 (loW z)] 54)) := by unfold Hid; rw [hW]; exact (by repeat (first | (refine heap_at _ _ _ ?hx; case hx => (first | (simp; done) | (simp; omega))) | (refine heap_past _ _ _ ?hy ?_; case hy => (first | (simp; done) | (simp; omega))) | fail))
  have rz : Hid (W.heap[w.heap.size + 1]? = some (.cells #[.bool false, .int .i64 0, .int .i64 0, .int .u64 0, .int .u64 0] 29)) := by unfold Hid; rw [hW]; exact (by repeat (first | (refine heap_at _ _ _ ?hx; case hx => (first | (simp; done) | (simp; omega))) | (refine heap_past _ _ _ ?hy ?_; case hy => (first | (simp; done) | (simp; omega))) | fail))
  have HW : Hid (Ok w0 W) := by unfold Hid; rw [hW]; exact (by repeat (first | exact hok | refine Ok.alloc ?_ _ | refine Ok.draws ?_ _ | fail))
  rw [← hW]
  clear hW
  obtain ⟨gz, egz⟩ : ∃ g, g = w.heap.size + 1 := ⟨_, rfl⟩
  rw [← egz] at rz ⊢
  obtain ⟨ga, ega⟩ : ∃ g, g = w.heap.size := ⟨_, rfl⟩
  rw [← ega] at ra ⊢
  have lga : w0.heap.size ≤ ga := by omega
  have ngagz : ¬ ga = gz := by omega
  have lgz : w0.heap.size ≤ gz := by omega
  have ngzga : ¬ gz = ga := by omega
  clear ega egz
  obtain ⟨a0, a1, a2, a3⟩ := row_facts ra.out
  obtain ⟨k0, k1, k2, k3, k4, k5, k6, k7, k8, k9⟩ := row5_facts rz.out
  have za := lt_row ra.out
  have bz : Ok W W := Ok.refl _
  go_region_held3 (fun w' => w'.cell? ⟨ga, 0, none⟩ = some (.int .i64 (hiW z)) ∧ w'.cell? ⟨ga, 1, none⟩ = some (.int .u64 (loW z))) (go_keep)
    (first
    | (go_at_call 32; refine (vnumber_any _ max_in W _ (by repeat (first | assumption | refine Ok.alloc ?_ _ | refine Below.drew ?_))).mono ?_; rintro e w' ⟨rfl, hb⟩; rw [← HM.out]; unfold wvv; have q0 := Ok.cell hb za a0; have q1 := Ok.cell hb za a1; obtain ⟨k0, k1, k2, k3, k4, k5, k6, k7, k8, k9⟩ := row5_facts (Ok.row' hb rz.out))
    | (go_at_call 51; refine (vclipped_any z m W _ (by repeat (first | assumption | refine Ok.alloc ?_ _ | refine Below.drew ?_))).mono ?_; rintro e w' ⟨rfl, hb⟩; rw [show clipN z m = c by rw [HC.out, HM.out]]; unfold nv; have q0 := Ok.cell hb za a0; have q1 := Ok.cell hb za a1; obtain ⟨k0, k1, k2, k3, k4, k5, k6, k7, k8, k9⟩ := row5_facts (Ok.row' hb rz.out))
    | fail)
  go_wp2_with fail
  have hr : Hid _ := Ok.row' hb rz.out
  (try simp only [Exit.inBlock, Exit.then]); refine bodyPost_ret (results_cell_row rfl _ _ (gz) 29 #[_, _, _, _, _] (0, 0) _ rfl (row_set5 hr.out _ _ _ _ _) Tryz.underlying29 rfl infoN) rfl ?_
  exact ⟨rfl, Ok.set (Ok.set (Ok.set (Ok.set (Ok.set (HW.out.step hb) (show w0.heap.size ≤ gz by omega) _) (show w0.heap.size ≤ gz by omega) _) (show w0.heap.size ≤ gz by omega) _) (show w0.heap.size ≤ gz by omega) _) (show w0.heap.size ≤ gz by omega) _⟩
set_option maxRecDepth 100000 in
set_option maxHeartbeats 4000000 in
theorem vupto_any (z : Int) (w0 w : World) (hok : Ok w0 w) :
    Calls Tryz.prog 31 #[wvv z] w fun e w' => e = .returned (nv (clipN (-9223372036854775808) z)) ∧ Ok w0 w' := by
  have hle := hok.le
  obtain ⟨c, hc⟩ : ∃ t, t = clipN (-9223372036854775808) z := ⟨_, rfl⟩
  rw [← hc]
  have HC : Hid _ := hc
  clear hc
  obtain ⟨m, hm⟩ : ∃ t : Int, t = (-9223372036854775808) := ⟨_, rfl⟩
  have HM : Hid _ := hm
  clear hm
  unfold wvv
  go_enter Tryz.func31, Tryz.ntmps31
  go_wp2_with fail
  obtain ⟨W, hW⟩ : ∃ W, W = ((w).alloc (.cells #[.int .i64 (hiW z), .int .u64 (loW z)] 54)).alloc (.cells #[.bool false, .int .i64 0, .int .i64 0, .int .u64 0, .int .u64 0] 29) := ⟨_, rfl⟩
  have ra : Hid (W.heap[w.heap.size]? = some (.cells #[.int .i64 (hiW z), .int .u64 (loW z)] 54)) := by unfold Hid; rw [hW]; exact (by repeat (first | (refine heap_at _ _ _ ?hx; case hx => (first | (simp; done) | (simp; omega))) | (refine heap_past _ _ _ ?hy ?_; case hy => (first | (simp; done) | (simp; omega))) | fail))
  have rz : Hid (W.heap[w.heap.size + 1]? = some (.cells #[.bool false, .int .i64 0, .int .i64 0, .int .u64 0, .int .u64 0] 29)) := by unfold Hid; rw [hW]; exact (by repeat (first | (refine heap_at _ _ _ ?hx; case hx => (first | (simp; done) | (simp; omega))) | (refine heap_past _ _ _ ?hy ?_; case hy => (first | (simp; done) | (simp; omega))) | fail))
  have HW : Hid (Ok w0 W) := by unfold Hid; rw [hW]; exact (by repeat (first | exact hok | refine Ok.alloc ?_ _ | refine Ok.draws ?_ _ | fail))
  rw [← hW]
  clear hW
  obtain ⟨gz, egz⟩ : ∃ g, g = w.heap.size + 1 := ⟨_, rfl⟩
  rw [← egz] at rz ⊢
  obtain ⟨ga, ega⟩ : ∃ g, g = w.heap.size := ⟨_, rfl⟩
  rw [← ega] at ra ⊢
  have lga : w0.heap.size ≤ ga := by omega
  have ngagz : ¬ ga = gz := by omega
  have lgz : w0.heap.size ≤ gz := by omega
  have ngzga : ¬ gz = ga := by omega
  clear ega egz
  obtain ⟨a0, a1, a2, a3⟩ := row_facts ra.out
  obtain ⟨k0, k1, k2, k3, k4, k5, k6, k7, k8, k9⟩ := row5_facts rz.out
  have za := lt_row ra.out
  have bz : Ok W W := Ok.refl _
  go_region_held3 (fun w' => w'.cell? ⟨ga, 0, none⟩ = some (.int .i64 (hiW z)) ∧ w'.cell? ⟨ga, 1, none⟩ = some (.int .u64 (loW z))) (go_keep)
    (first
    | (go_at_call 32; refine (vnumber_any _ min_in W _ (by repeat (first | assumption | refine Ok.alloc ?_ _ | refine Below.drew ?_))).mono ?_; rintro e w' ⟨rfl, hb⟩; rw [← HM.out]; unfold wvv; have q0 := Ok.cell hb za a0; have q1 := Ok.cell hb za a1; obtain ⟨k0, k1, k2, k3, k4, k5, k6, k7, k8, k9⟩ := row5_facts (Ok.row' hb rz.out))
    | (go_at_call 51; refine (vclipped_any m z W _ (by repeat (first | assumption | refine Ok.alloc ?_ _ | refine Below.drew ?_))).mono ?_; rintro e w' ⟨rfl, hb⟩; rw [show clipN m z = c by rw [HC.out, HM.out]]; unfold nv; have q0 := Ok.cell hb za a0; have q1 := Ok.cell hb za a1; obtain ⟨k0, k1, k2, k3, k4, k5, k6, k7, k8, k9⟩ := row5_facts (Ok.row' hb rz.out))
    | fail)
  go_wp2_with fail
  have hr : Hid _ := Ok.row' hb rz.out
  (try simp only [Exit.inBlock, Exit.then]); refine bodyPost_ret (results_cell_row rfl _ _ (gz) 29 #[_, _, _, _, _] (0, 0) _ rfl (row_set5 hr.out _ _ _ _ _) Tryz.underlying29 rfl infoN) rfl ?_
  exact ⟨rfl, Ok.set (Ok.set (Ok.set (Ok.set (Ok.set (HW.out.step hb) (show w0.heap.size ≤ gz by omega) _) (show w0.heap.size ≤ gz by omega) _) (show w0.heap.size ≤ gz by omega) _) (show w0.heap.size ≤ gz by omega) _) (show w0.heap.size ≤ gz by omega) _⟩
set_option maxRecDepth 100000 in
set_option maxHeartbeats 4000000 in
theorem vbelow_any (a : Int × Int × Nat × Nat × Bool) (v : Int) (ha : RawN a) (hv : In64 v) (w0 w : World) (hok : Ok w0 w) :
    Calls Tryz.prog 27 #[nv a, .int .i64 v] w fun e w' => e = .returned (nv (belN a v)) ∧ Ok w0 w' := by
  have hle := hok.le
  have HU : Hid (RawN a ∧ In64 v) := ⟨ha, hv⟩
  clear ha hv
  unfold belN
  obtain ⟨c, hc⟩ : ∃ t, t = clipN (-9223372036854775808) (v + -1) := ⟨_, rfl⟩
  have RC : Hid (RawN c) := by rw [hc]; exact clip_raw _ _
  rw [← hc]
  obtain ⟨m, hm⟩ : ∃ t, t = meetN a c := ⟨_, rfl⟩
  rw [← hm]
  have HC : Hid _ := hc
  have HM : Hid _ := hm
  clear hc hm
  obtain ⟨s, hs⟩ : ∃ t, t = v + -1 := ⟨_, rfl⟩
  have HS : Hid _ := hs
  clear hs
  unfold nv
  go_enter Tryz.func27, Tryz.ntmps27
  go_wp2_with fail
  obtain ⟨W, hW⟩ : ∃ W, W = ((w).alloc (.cells #[.bool a.2.2.2.2, .int .i64 a.1, .int .i64 a.2.1, .int .u64 (a.2.2.1 : Int), .int .u64 (a.2.2.2.1 : Int)] 29)).alloc (.cells #[.bool false, .int .i64 0, .int .i64 0, .int .u64 0, .int .u64 0] 29) := ⟨_, rfl⟩
  have ra : Hid (W.heap[w.heap.size]? = some (.cells #[.bool a.2.2.2.2, .int .i64 a.1, .int .i64 a.2.1, .int .u64 (a.2.2.1 : Int), .int .u64 (a.2.2.2.1 : Int)] 29)) := by unfold Hid; rw [hW]; exact (by repeat (first | (refine heap_at _ _ _ ?hx; case hx => (first | (simp; done) | (simp; omega))) | (refine heap_past _ _ _ ?hy ?_; case hy => (first | (simp; done) | (simp; omega))) | fail))
  have rz : Hid (W.heap[w.heap.size + 1]? = some (.cells #[.bool false, .int .i64 0, .int .i64 0, .int .u64 0, .int .u64 0] 29)) := by unfold Hid; rw [hW]; exact (by repeat (first | (refine heap_at _ _ _ ?hx; case hx => (first | (simp; done) | (simp; omega))) | (refine heap_past _ _ _ ?hy ?_; case hy => (first | (simp; done) | (simp; omega))) | fail))
  have HW : Hid (Ok w0 W) := by unfold Hid; rw [hW]; exact (by repeat (first | exact hok | refine Ok.alloc ?_ _ | refine Ok.draws ?_ _ | fail))
  rw [← hW]
  clear hW
  obtain ⟨gz, egz⟩ : ∃ g, g = w.heap.size + 1 := ⟨_, rfl⟩
  rw [← egz] at rz ⊢
  obtain ⟨ga, ega⟩ : ∃ g, g = w.heap.size := ⟨_, rfl⟩
  rw [← ega] at ra ⊢
  have lga : w0.heap.size ≤ ga := by omega
  have ngagz : ¬ ga = gz := by omega
  have lgz : w0.heap.size ≤ gz := by omega
  have ngzga : ¬ gz = ga := by omega
  clear ega egz
  obtain ⟨a0, a1, a2, a3, a4, a5, a6, a7, a8, a9⟩ := row5_facts ra.out
  obtain ⟨k0, k1, k2, k3, k4, k5, k6, k7, k8, k9⟩ := row5_facts rz.out
  have za := lt_row ra.out
  have bz : Ok W W := Ok.refl _
  go_region_held3 (fun w' => w'.cell? ⟨ga, 0, none⟩ = some (.bool a.2.2.2.2) ∧ w'.cell? ⟨ga, 1, none⟩ = some (.int .i64 a.1) ∧ w'.cell? ⟨ga, 2, none⟩ = some (.int .i64 a.2.1) ∧ w'.cell? ⟨ga, 3, none⟩ = some (.int .u64 (a.2.2.1 : Int)) ∧ w'.cell? ⟨ga, 4, none⟩ = some (.int .u64 (a.2.2.2.1 : Int))) (go_keep)
    (first
    | (go_at_call 32; refine (vnumber_any v HU.out.2 W _ (by repeat (first | assumption | refine Ok.alloc ?_ _ | refine Below.drew ?_))).mono ?_; rintro e w' ⟨rfl, hb⟩; unfold wvv; have q0 := Ok.cell hb za a0; have q1 := Ok.cell hb za a1; have q2 := Ok.cell hb za a2; have q3 := Ok.cell hb za a3; have q4 := Ok.cell hb za a4; obtain ⟨k0, k1, k2, k3, k4, k5, k6, k7, k8, k9⟩ := row5_facts (Ok.row' hb rz.out))
    | (go_at_call 48; refine (vplus_any v (-1) (v126_in HU.out.2) mone_in W _ (by repeat (first | assumption | refine Ok.alloc ?_ _ | refine Below.drew ?_))).mono ?_; rintro e w' ⟨rfl, hb⟩; rw [← HS.out]; unfold wvv; have q0 := Ok.cell hb za a0; have q1 := Ok.cell hb za a1; have q2 := Ok.cell hb za a2; have q3 := Ok.cell hb za a3; have q4 := Ok.cell hb za a4; obtain ⟨k0, k1, k2, k3, k4, k5, k6, k7, k8, k9⟩ := row5_facts (Ok.row' hb rz.out))
    | (go_at_call 31; refine (vupto_any s W _ (by repeat (first | assumption | refine Ok.alloc ?_ _ | refine Below.drew ?_))).mono ?_; rintro e w' ⟨rfl, hb⟩; rw [show clipN (-9223372036854775808) s = c by rw [HC.out, HS.out]]; unfold nv; have q0 := Ok.cell hb za a0; have q1 := Ok.cell hb za a1; have q2 := Ok.cell hb za a2; have q3 := Ok.cell hb za a3; have q4 := Ok.cell hb za a4; obtain ⟨k0, k1, k2, k3, k4, k5, k6, k7, k8, k9⟩ := row5_facts (Ok.row' hb rz.out))
    | (go_at_call 30; refine (nmeet_any a c HU.out.1 RC.out W _ (by repeat (first | assumption | refine Ok.alloc ?_ _ | refine Below.drew ?_))).mono ?_; rintro e w' ⟨rfl, hb⟩; rw [← HM.out]; unfold nv; have q0 := Ok.cell hb za a0; have q1 := Ok.cell hb za a1; have q2 := Ok.cell hb za a2; have q3 := Ok.cell hb za a3; have q4 := Ok.cell hb za a4; obtain ⟨k0, k1, k2, k3, k4, k5, k6, k7, k8, k9⟩ := row5_facts (Ok.row' hb rz.out))
    | fail)
  go_wp2_with fail
  have hr : Hid _ := Ok.row' hb rz.out
  (try simp only [Exit.inBlock, Exit.then]); refine bodyPost_ret (results_cell_row rfl _ _ (gz) 29 #[_, _, _, _, _] (0, 0) _ rfl (row_set5 hr.out _ _ _ _ _) Tryz.underlying29 rfl infoN) rfl ?_
  exact ⟨rfl, Ok.set (Ok.set (Ok.set (Ok.set (Ok.set (HW.out.step hb) (show w0.heap.size ≤ gz by omega) _) (show w0.heap.size ≤ gz by omega) _) (show w0.heap.size ≤ gz by omega) _) (show w0.heap.size ≤ gz by omega) _) (show w0.heap.size ≤ gz by omega) _⟩
set_option maxRecDepth 100000 in
set_option maxHeartbeats 4000000 in
theorem vabove_any (a : Int × Int × Nat × Nat × Bool) (v : Int) (ha : RawN a) (hv : In64 v) (w0 w : World) (hok : Ok w0 w) :
    Calls Tryz.prog 28 #[nv a, .int .i64 v] w fun e w' => e = .returned (nv (aboN a v)) ∧ Ok w0 w' := by
  have hle := hok.le
  have HU : Hid (RawN a ∧ In64 v) := ⟨ha, hv⟩
  clear ha hv
  unfold aboN
  obtain ⟨c, hc⟩ : ∃ t, t = clipN (v + 1) 9223372036854775807 := ⟨_, rfl⟩
  have RC : Hid (RawN c) := by rw [hc]; exact clip_raw _ _
  rw [← hc]
  obtain ⟨m, hm⟩ : ∃ t, t = meetN a c := ⟨_, rfl⟩
  rw [← hm]
  have HC : Hid _ := hc
  have HM : Hid _ := hm
  clear hc hm
  obtain ⟨s, hs⟩ : ∃ t, t = v + 1 := ⟨_, rfl⟩
  have HS : Hid _ := hs
  clear hs
  unfold nv
  go_enter Tryz.func28, Tryz.ntmps28
  go_wp2_with fail
  obtain ⟨W, hW⟩ : ∃ W, W = ((w).alloc (.cells #[.bool a.2.2.2.2, .int .i64 a.1, .int .i64 a.2.1, .int .u64 (a.2.2.1 : Int), .int .u64 (a.2.2.2.1 : Int)] 29)).alloc (.cells #[.bool false, .int .i64 0, .int .i64 0, .int .u64 0, .int .u64 0] 29) := ⟨_, rfl⟩
  have ra : Hid (W.heap[w.heap.size]? = some (.cells #[.bool a.2.2.2.2, .int .i64 a.1, .int .i64 a.2.1, .int .u64 (a.2.2.1 : Int), .int .u64 (a.2.2.2.1 : Int)] 29)) := by unfold Hid; rw [hW]; exact (by repeat (first | (refine heap_at _ _ _ ?hx; case hx => (first | (simp; done) | (simp; omega))) | (refine heap_past _ _ _ ?hy ?_; case hy => (first | (simp; done) | (simp; omega))) | fail))
  have rz : Hid (W.heap[w.heap.size + 1]? = some (.cells #[.bool false, .int .i64 0, .int .i64 0, .int .u64 0, .int .u64 0] 29)) := by unfold Hid; rw [hW]; exact (by repeat (first | (refine heap_at _ _ _ ?hx; case hx => (first | (simp; done) | (simp; omega))) | (refine heap_past _ _ _ ?hy ?_; case hy => (first | (simp; done) | (simp; omega))) | fail))
  have HW : Hid (Ok w0 W) := by unfold Hid; rw [hW]; exact (by repeat (first | exact hok | refine Ok.alloc ?_ _ | refine Ok.draws ?_ _ | fail))
  rw [← hW]
  clear hW
  obtain ⟨gz, egz⟩ : ∃ g, g = w.heap.size + 1 := ⟨_, rfl⟩
  rw [← egz] at rz ⊢
  obtain ⟨ga, ega⟩ : ∃ g, g = w.heap.size := ⟨_, rfl⟩
  rw [← ega] at ra ⊢
  have lga : w0.heap.size ≤ ga := by omega
  have ngagz : ¬ ga = gz := by omega
  have lgz : w0.heap.size ≤ gz := by omega
  have ngzga : ¬ gz = ga := by omega
  clear ega egz
  obtain ⟨a0, a1, a2, a3, a4, a5, a6, a7, a8, a9⟩ := row5_facts ra.out
  obtain ⟨k0, k1, k2, k3, k4, k5, k6, k7, k8, k9⟩ := row5_facts rz.out
  have za := lt_row ra.out
  have bz : Ok W W := Ok.refl _
  go_region_held3 (fun w' => w'.cell? ⟨ga, 0, none⟩ = some (.bool a.2.2.2.2) ∧ w'.cell? ⟨ga, 1, none⟩ = some (.int .i64 a.1) ∧ w'.cell? ⟨ga, 2, none⟩ = some (.int .i64 a.2.1) ∧ w'.cell? ⟨ga, 3, none⟩ = some (.int .u64 (a.2.2.1 : Int)) ∧ w'.cell? ⟨ga, 4, none⟩ = some (.int .u64 (a.2.2.2.1 : Int))) (go_keep)
    (first
    | (go_at_call 32; refine (vnumber_any v HU.out.2 W _ (by repeat (first | assumption | refine Ok.alloc ?_ _ | refine Below.drew ?_))).mono ?_; rintro e w' ⟨rfl, hb⟩; unfold wvv; have q0 := Ok.cell hb za a0; have q1 := Ok.cell hb za a1; have q2 := Ok.cell hb za a2; have q3 := Ok.cell hb za a3; have q4 := Ok.cell hb za a4; obtain ⟨k0, k1, k2, k3, k4, k5, k6, k7, k8, k9⟩ := row5_facts (Ok.row' hb rz.out))
    | (go_at_call 48; refine (vplus_any v 1 (v126_in HU.out.2) one_in W _ (by repeat (first | assumption | refine Ok.alloc ?_ _ | refine Below.drew ?_))).mono ?_; rintro e w' ⟨rfl, hb⟩; rw [← HS.out]; unfold wvv; have q0 := Ok.cell hb za a0; have q1 := Ok.cell hb za a1; have q2 := Ok.cell hb za a2; have q3 := Ok.cell hb za a3; have q4 := Ok.cell hb za a4; obtain ⟨k0, k1, k2, k3, k4, k5, k6, k7, k8, k9⟩ := row5_facts (Ok.row' hb rz.out))
    | (go_at_call 33; refine (vfrom_any s W _ (by repeat (first | assumption | refine Ok.alloc ?_ _ | refine Below.drew ?_))).mono ?_; rintro e w' ⟨rfl, hb⟩; rw [show clipN s 9223372036854775807 = c by rw [HC.out, HS.out]]; unfold nv; have q0 := Ok.cell hb za a0; have q1 := Ok.cell hb za a1; have q2 := Ok.cell hb za a2; have q3 := Ok.cell hb za a3; have q4 := Ok.cell hb za a4; obtain ⟨k0, k1, k2, k3, k4, k5, k6, k7, k8, k9⟩ := row5_facts (Ok.row' hb rz.out))
    | (go_at_call 30; refine (nmeet_any a c HU.out.1 RC.out W _ (by repeat (first | assumption | refine Ok.alloc ?_ _ | refine Below.drew ?_))).mono ?_; rintro e w' ⟨rfl, hb⟩; rw [← HM.out]; unfold nv; have q0 := Ok.cell hb za a0; have q1 := Ok.cell hb za a1; have q2 := Ok.cell hb za a2; have q3 := Ok.cell hb za a3; have q4 := Ok.cell hb za a4; obtain ⟨k0, k1, k2, k3, k4, k5, k6, k7, k8, k9⟩ := row5_facts (Ok.row' hb rz.out))
    | fail)
  go_wp2_with fail
  have hr : Hid _ := Ok.row' hb rz.out
  (try simp only [Exit.inBlock, Exit.then]); refine bodyPost_ret (results_cell_row rfl _ _ (gz) 29 #[_, _, _, _, _] (0, 0) _ rfl (row_set5 hr.out _ _ _ _ _) Tryz.underlying29 rfl infoN) rfl ?_
  exact ⟨rfl, Ok.set (Ok.set (Ok.set (Ok.set (Ok.set (HW.out.step hb) (show w0.heap.size ≤ gz by omega) _) (show w0.heap.size ≤ gz by omega) _) (show w0.heap.size ≤ gz by omega) _) (show w0.heap.size ≤ gz by omega) _) (show w0.heap.size ≤ gz by omega) _⟩
set_option maxRecDepth 100000 in
set_option maxHeartbeats 4000000 in
theorem vsingle_any (a : Int × Int × Nat × Nat × Bool) (w0 w : World) (hok : Ok w0 w) :
    Calls Tryz.prog 53 #[nv a] w fun e w' => e = .returned (.tuple #[.int .i64 a.1, .bool (oneN a)]) ∧ Ok w0 w' := by
  have hle := hok.le
  obtain ⟨l, h, M, R, B⟩ := a
  obtain ⟨o, ho⟩ : ∃ t, t = oneN (l, h, M, R, B) := ⟨_, rfl⟩
  rw [← ho]
  have HO : Hid _ := ho
  clear ho
  unfold nv
  simp only
  cases B
  · by_cases he : l = h
    · have E : Hid (o = true) := by unfold Hid; rw [HO.out]; unfold oneN; simp [he]
      clear HO
      have k : decide (l = h) = true := by simpa using he
      have k2 : (l == h) = true := by simpa using he
      clear he
      go_enter Tryz.func53, Tryz.ntmps53
      go_wp2_with fail
      obtain ⟨W, hW⟩ : ∃ W, W = (w).alloc (.cells #[.bool false, .int .i64 l, .int .i64 h, .int .u64 (M : Int), .int .u64 (R : Int)] 29) := ⟨_, rfl⟩
      have ra : Hid (W.heap[w.heap.size]? = some (.cells #[.bool false, .int .i64 l, .int .i64 h, .int .u64 (M : Int), .int .u64 (R : Int)] 29)) := by unfold Hid; rw [hW]; exact (by repeat (first | (refine heap_at _ _ _ ?hx; case hx => (first | (simp; done) | (simp; omega))) | (refine heap_past _ _ _ ?hy ?_; case hy => (first | (simp; done) | (simp; omega))) | fail))
      have HW : Hid (Ok w0 W) := by unfold Hid; rw [hW]; exact (by repeat (first | exact hok | refine Ok.alloc ?_ _ | refine Ok.draws ?_ _ | fail))
      rw [← hW]
      clear hW
      obtain ⟨ga, ega⟩ : ∃ g, g = w.heap.size := ⟨_, rfl⟩
      rw [← ega] at ra ⊢
      have lga : w0.heap.size ≤ ga := by omega
      clear ega
      obtain ⟨a0, a1, a2, a3, a4, a5, a6, a7, a8, a9⟩ := row5_facts ra.out
      go_region
      all_goals (go_wp2_with fail)
      all_goals (refine bodyPost_ret (results_tmp2 rfl _ _ _) rfl ?_)
      all_goals (refine ⟨?_, ?_⟩)
      all_goals first | (rw [E.out]; done) | (rw [E.out]; rfl) | exact HW.out.step (Below.drew (Ok.refl W)) | exact HW.out
    · have E : Hid (o = false) := by unfold Hid; rw [HO.out]; unfold oneN; simp [he]
      clear HO
      have k : decide (l = h) = false := by simpa using he
      have k2 : (l == h) = false := by simpa using he
      clear he
      go_enter Tryz.func53, Tryz.ntmps53
      go_wp2_with fail
      obtain ⟨W, hW⟩ : ∃ W, W = (w).alloc (.cells #[.bool false, .int .i64 l, .int .i64 h, .int .u64 (M : Int), .int .u64 (R : Int)] 29) := ⟨_, rfl⟩
      have ra : Hid (W.heap[w.heap.size]? = some (.cells #[.bool false, .int .i64 l, .int .i64 h, .int .u64 (M : Int), .int .u64 (R : Int)] 29)) := by unfold Hid; rw [hW]; exact (by repeat (first | (refine heap_at _ _ _ ?hx; case hx => (first | (simp; done) | (simp; omega))) | (refine heap_past _ _ _ ?hy ?_; case hy => (first | (simp; done) | (simp; omega))) | fail))
      have HW : Hid (Ok w0 W) := by unfold Hid; rw [hW]; exact (by repeat (first | exact hok | refine Ok.alloc ?_ _ | refine Ok.draws ?_ _ | fail))
      rw [← hW]
      clear hW
      obtain ⟨ga, ega⟩ : ∃ g, g = w.heap.size := ⟨_, rfl⟩
      rw [← ega] at ra ⊢
      have lga : w0.heap.size ≤ ga := by omega
      clear ega
      obtain ⟨a0, a1, a2, a3, a4, a5, a6, a7, a8, a9⟩ := row5_facts ra.out
      go_region
      all_goals (go_wp2_with fail)
      all_goals (refine bodyPost_ret (results_tmp2 rfl _ _ _) rfl ?_)
      all_goals (refine ⟨?_, ?_⟩)
      all_goals first | (rw [E.out]; done) | (rw [E.out]; rfl) | exact HW.out.step (Below.drew (Ok.refl W)) | exact HW.out
  · have E : Hid (o = false) := by unfold Hid; rw [HO.out]; unfold oneN; simp
    clear HO
    go_enter Tryz.func53, Tryz.ntmps53
    go_wp2_with fail
    obtain ⟨W, hW⟩ : ∃ W, W = (w).alloc (.cells #[.bool true, .int .i64 l, .int .i64 h, .int .u64 (M : Int), .int .u64 (R : Int)] 29) := ⟨_, rfl⟩
    have ra : Hid (W.heap[w.heap.size]? = some (.cells #[.bool true, .int .i64 l, .int .i64 h, .int .u64 (M : Int), .int .u64 (R : Int)] 29)) := by unfold Hid; rw [hW]; exact (by repeat (first | (refine heap_at _ _ _ ?hx; case hx => (first | (simp; done) | (simp; omega))) | (refine heap_past _ _ _ ?hy ?_; case hy => (first | (simp; done) | (simp; omega))) | fail))
    have HW : Hid (Ok w0 W) := by unfold Hid; rw [hW]; exact (by repeat (first | exact hok | refine Ok.alloc ?_ _ | refine Ok.draws ?_ _ | fail))
    rw [← hW]
    clear hW
    obtain ⟨ga, ega⟩ : ∃ g, g = w.heap.size := ⟨_, rfl⟩
    rw [← ega] at ra ⊢
    have lga : w0.heap.size ≤ ga := by omega
    clear ega
    obtain ⟨a0, a1, a2, a3, a4, a5, a6, a7, a8, a9⟩ := row5_facts ra.out
    go_region
    all_goals (go_wp2_with fail)
    all_goals (refine bodyPost_ret (results_tmp2 rfl _ _ _) rfl ?_)
    all_goals (refine ⟨?_, ?_⟩)
    all_goals first | (rw [E.out]; done) | (rw [E.out]; rfl) | exact HW.out.step (Below.drew (Ok.refl W)) | exact HW.out
/-- a without the one number that b is, where it stands at an end of a. -/
def unlN (a b : Int × Int × Nat × Nat × Bool) : Int × Int × Nat × Nat × Bool :=
  if oneN b = true then (if (if a.1 = b.1 then aboN a b.1 else a).2.1 = b.1 then belN (if a.1 = b.1 then aboN a b.1 else a) b.1 else (if a.1 = b.1 then aboN a b.1 else a)) else a
set_option maxRecDepth 100000 in
set_option maxHeartbeats 4000000 in
theorem vunlike_any (a b : Int × Int × Nat × Nat × Bool) (ha : RawN a) (hb : RawN b) (w0 w : World) (hok : Ok w0 w) :
    Calls Tryz.prog 37 #[nv a, nv b] w fun e w' => e = .returned (nv (unlN a b)) ∧ Ok w0 w' := by
  have hle := hok.le
  have HU : Hid (RawN a ∧ RawN b) := ⟨ha, hb⟩
  clear ha hb
  obtain ⟨v, hv⟩ : ∃ t, t = b.1 := ⟨_, rfl⟩
  have IV : Hid (In64 v) := by rw [hv]; exact HU.out.2.1
  obtain ⟨o, ho⟩ : ∃ t, t = oneN b := ⟨_, rfl⟩
  obtain ⟨x, hx⟩ : ∃ t, t = (if a.1 = v then aboN a v else a) := ⟨_, rfl⟩
  have RX : Hid (RawN x) := by rw [hx]; unfold Hid; split; exact abo_raw HU.out.1 _; exact HU.out.1
  obtain ⟨r, hr0⟩ : ∃ t, t = unlN a b := ⟨_, rfl⟩
  have HR : Hid (r = if o = true then (if x.2.1 = v then belN x v else x) else a) := by unfold Hid; rw [hr0, hx, ho, hv]; rfl
  rw [← hr0]
  have HV : Hid _ := hv
  have HO : Hid _ := ho
  have HX : Hid _ := hx
  clear hv ho hx hr0
  unfold nv
  go_enter Tryz.func37, Tryz.ntmps37
  go_wp2_with fail
  obtain ⟨W, hW⟩ : ∃ W, W = (((w).alloc (.cells #[.bool a.2.2.2.2, .int .i64 a.1, .int .i64 a.2.1, .int .u64 (a.2.2.1 : Int), .int .u64 (a.2.2.2.1 : Int)] 29)).alloc (.cells #[.bool b.2.2.2.2, .int .i64 b.1, .int .i64 b.2.1, .int .u64 (b.2.2.1 : Int), .int .u64 (b.2.2.2.1 : Int)] 29)).alloc (.cells #[.bool false, .int .i64 0, .int .i64 0, .int .u64 0, .int .u64 0] 29) := ⟨_, rfl⟩
  have ra : Hid (W.heap[w.heap.size]? = some (.cells #[.bool a.2.2.2.2, .int .i64 a.1, .int .i64 a.2.1, .int .u64 (a.2.2.1 : Int), .int .u64 (a.2.2.2.1 : Int)] 29)) := by unfold Hid; rw [hW]; exact (by repeat (first | (refine heap_at _ _ _ ?hx; case hx => (first | (simp; done) | (simp; omega))) | (refine heap_past _ _ _ ?hy ?_; case hy => (first | (simp; done) | (simp; omega))) | fail))
  have rb : Hid (W.heap[w.heap.size + 1]? = some (.cells #[.bool b.2.2.2.2, .int .i64 b.1, .int .i64 b.2.1, .int .u64 (b.2.2.1 : Int), .int .u64 (b.2.2.2.1 : Int)] 29)) := by unfold Hid; rw [hW]; exact (by repeat (first | (refine heap_at _ _ _ ?hx; case hx => (first | (simp; done) | (simp; omega))) | (refine heap_past _ _ _ ?hy ?_; case hy => (first | (simp; done) | (simp; omega))) | fail))
  have rz : Hid (W.heap[w.heap.size + 1 + 1]? = some (.cells #[.bool false, .int .i64 0, .int .i64 0, .int .u64 0, .int .u64 0] 29)) := by unfold Hid; rw [hW]; exact (by repeat (first | (refine heap_at _ _ _ ?hx; case hx => (first | (simp; done) | (simp; omega))) | (refine heap_past _ _ _ ?hy ?_; case hy => (first | (simp; done) | (simp; omega))) | fail))
  have HW : Hid (Ok w0 W) := by unfold Hid; rw [hW]; exact (by repeat (first | exact hok | refine Ok.alloc ?_ _ | refine Ok.draws ?_ _ | fail))
  rw [← hW]
  clear hW
  obtain ⟨gz, egz⟩ : ∃ g, g = w.heap.size + 1 + 1 := ⟨_, rfl⟩
  rw [← egz] at rz ⊢
  obtain ⟨gb, egb⟩ : ∃ g, g = w.heap.size + 1 := ⟨_, rfl⟩
  rw [← egb] at rb ⊢
  obtain ⟨ga, ega⟩ : ∃ g, g = w.heap.size := ⟨_, rfl⟩
  rw [← ega] at ra ⊢
  have lga : w0.heap.size ≤ ga := by omega
  have ngagb : ¬ ga = gb := by omega
  have ngagz : ¬ ga = gz := by omega
  have lgb : w0.heap.size ≤ gb := by omega
  have ngbga : ¬ gb = ga := by omega
  have ngbgz : ¬ gb = gz := by omega
  have lgz : w0.heap.size ≤ gz := by omega
  have ngzga : ¬ gz = ga := by omega
  have ngzgb : ¬ gz = gb := by omega
  clear ega egb egz
  refine (vsingle_any b W _ (by repeat (first | exact Ok.refl _ | refine Ok.alloc ?_ _ | refine Ok.draws ?_ _ | fail))).mono ?_
  rintro e w1 ⟨rfl, hb⟩
  replace ra : Hid _ := Ok.row' hb ra.out
  replace rb : Hid _ := Ok.row' hb rb.out
  replace rz : Hid _ := Ok.row' hb rz.out
  have Hw1 : Hid (Ok w0 w1) := HW.out.step hb
  clear hb
  rw [← HO.out, ← HV.out]
  cases o
  · have HA : Hid (r = a) := by unfold Hid; rw [HR.out, if_neg (by simp)]
    obtain ⟨a0, a1, a2, a3, a4, a5, a6, a7, a8, a9⟩ := row5_facts ra.out
    obtain ⟨k0, k1, k2, k3, k4, k5, k6, k7, k8, k9⟩ := row5_facts rz.out
    go_wp2_with fail
    have hr : Hid _ := rz
    (try simp only [Exit.inBlock, Exit.then]); refine bodyPost_ret (results_cell_row rfl _ _ (gz) 29 #[_, _, _, _, _] (0, 0) _ rfl (row_set5 hr.out _ _ _ _ _) Tryz.underlying29 rfl infoN) rfl ?_
    exact ⟨(by rw [HA.out]), Ok.set (Ok.set (Ok.set (Ok.set (Ok.set (Hw1.out) (show w0.heap.size ≤ gz by omega) _) (show w0.heap.size ≤ gz by omega) _) (show w0.heap.size ≤ gz by omega) _) (show w0.heap.size ≤ gz by omega) _) (show w0.heap.size ≤ gz by omega) _⟩
  · replace HR : Hid (r = if x.2.1 = v then belN x v else x) := by unfold Hid; rw [HR.out, if_pos rfl]
    by_cases h1 : a.1 = v
    · have HE : Hid (x = aboN a v) := by unfold Hid; rw [HX.out, if_pos h1]
      have d1 : (a.1 == v) = true := by simpa using h1
      clear h1 HX
      obtain ⟨a0, a1, a2, a3, a4, a5, a6, a7, a8, a9⟩ := row5_facts ra.out
      obtain ⟨k0, k1, k2, k3, k4, k5, k6, k7, k8, k9⟩ := row5_facts rz.out
      go_wp2_with fail
      clear a0 a1 a2 a3 a4 a5 a6 a7 a8 a9 k0 k1 k2 k3 k4 k5 k6 k7 k8 k9
      refine (vabove_any a v HU.out.1 IV.out w1 _ (Ok.refl _)).mono ?_
      rintro e u1 ⟨rfl, hb⟩
      rw [← HE.out]
      unfold nv
      replace ra : Hid _ := Ok.row' hb ra.out
      replace rz : Hid _ := Ok.row' hb rz.out
      have Hu1 : Hid (Ok w0 u1) := Hw1.out.step hb
      clear hb Hw1
      obtain ⟨a0, a1, a2, a3, a4, a5, a6, a7, a8, a9⟩ := row5_facts ra.out
      obtain ⟨k0, k1, k2, k3, k4, k5, k6, k7, k8, k9⟩ := row5_facts rz.out
      go_upto_region 6 with (fail)
      obtain ⟨Z1, hZ1⟩ : ∃ Z, Z = (((((u1.setCell ⟨ga, 0, none⟩ (.bool x.2.2.2.2)).setCell ⟨ga, 1, none⟩ (.int .i64 x.1)).setCell ⟨ga, 2, none⟩ (.int .i64 x.2.1)).setCell ⟨ga, 3, none⟩ (.int .u64 (x.2.2.1 : Int))).setCell ⟨ga, 4, none⟩ (.int .u64 (x.2.2.2.1 : Int))) := ⟨_, rfl⟩
      obtain ⟨HZ1, raz, keep⟩ := (rows_put1 ra.out Hu1.out (by omega) _ _ _ _ _ hZ1).out
      replace HZ1 : Hid (Ok w0 Z1) := HZ1
      replace raz : Hid _ := raz
      replace rz : Hid _ := keep _ _ (by omega) rz.out
      rw [← hZ1]
      clear hZ1 keep ra
      clear a0 a1 a2 a3 a4 a5 a6 a7 a8 a9 k0 k1 k2 k3 k4 k5 k6 k7 k8 k9
      have ra : Hid _ := raz
      clear raz
      by_cases h2 : x.2.1 = v
      · have HA : Hid (r = belN x v) := by unfold Hid; rw [HR.out, if_pos h2]
        obtain ⟨y, hy⟩ : ∃ t, t = belN x v := ⟨_, rfl⟩
        have HY : Hid _ := hy
        clear hy
        have d2 : (x.2.1 == v) = true := by simpa using h2
        clear h2
        obtain ⟨a0, a1, a2, a3, a4, a5, a6, a7, a8, a9⟩ := row5_facts ra.out
        obtain ⟨k0, k1, k2, k3, k4, k5, k6, k7, k8, k9⟩ := row5_facts rz.out
        go_wp2_with fail
        clear a0 a1 a2 a3 a4 a5 a6 a7 a8 a9 k0 k1 k2 k3 k4 k5 k6 k7 k8 k9
        refine (vbelow_any x v RX.out IV.out Z1 _ (Ok.refl _)).mono ?_
        rintro e x1 ⟨rfl, hb⟩
        rw [← HY.out]
        unfold nv
        replace ra : Hid _ := Ok.row' hb ra.out
        replace rz : Hid _ := Ok.row' hb rz.out
        have Hx1 : Hid (Ok w0 x1) := HZ1.out.step hb
        clear hb HZ1
        obtain ⟨a0, a1, a2, a3, a4, a5, a6, a7, a8, a9⟩ := row5_facts ra.out
        obtain ⟨k0, k1, k2, k3, k4, k5, k6, k7, k8, k9⟩ := row5_facts rz.out
        go_upto_region 8 with (fail)
        obtain ⟨Z2, hZ2⟩ : ∃ Z, Z = (((((x1.setCell ⟨ga, 0, none⟩ (.bool y.2.2.2.2)).setCell ⟨ga, 1, none⟩ (.int .i64 y.1)).setCell ⟨ga, 2, none⟩ (.int .i64 y.2.1)).setCell ⟨ga, 3, none⟩ (.int .u64 (y.2.2.1 : Int))).setCell ⟨ga, 4, none⟩ (.int .u64 (y.2.2.2.1 : Int))) := ⟨_, rfl⟩
        obtain ⟨HZ2, raz, keep⟩ := (rows_put1 ra.out Hx1.out (by omega) _ _ _ _ _ hZ2).out
        replace HZ2 : Hid (Ok w0 Z2) := HZ2
        replace raz : Hid _ := raz
        replace rz : Hid _ := keep _ _ (by omega) rz.out
        rw [← hZ2]
        clear hZ2 keep ra
        clear a0 a1 a2 a3 a4 a5 a6 a7 a8 a9 k0 k1 k2 k3 k4 k5 k6 k7 k8 k9
        obtain ⟨a0, a1, a2, a3, a4, a5, a6, a7, a8, a9⟩ := row5_facts raz.out
        obtain ⟨k0, k1, k2, k3, k4, k5, k6, k7, k8, k9⟩ := row5_facts rz.out
        go_wp2_with fail
        have hr : Hid _ := rz
        (try simp only [Exit.inBlock, Exit.then]); refine bodyPost_ret (results_cell_row rfl _ _ (gz) 29 #[_, _, _, _, _] (0, 0) _ rfl (row_set5 hr.out _ _ _ _ _) Tryz.underlying29 rfl infoN) rfl ?_
        exact ⟨(by rw [HA.out, ← HY.out]), Ok.set (Ok.set (Ok.set (Ok.set (Ok.set (HZ2.out) (show w0.heap.size ≤ gz by omega) _) (show w0.heap.size ≤ gz by omega) _) (show w0.heap.size ≤ gz by omega) _) (show w0.heap.size ≤ gz by omega) _) (show w0.heap.size ≤ gz by omega) _⟩
      · have HA : Hid (r = x) := by unfold Hid; rw [HR.out, if_neg h2]
        have d2 : (x.2.1 == v) = false := by simpa using h2
        clear h2
        obtain ⟨a0, a1, a2, a3, a4, a5, a6, a7, a8, a9⟩ := row5_facts ra.out
        obtain ⟨k0, k1, k2, k3, k4, k5, k6, k7, k8, k9⟩ := row5_facts rz.out
        go_wp2_with fail
        have hr : Hid _ := rz
        (try simp only [Exit.inBlock, Exit.then]); refine bodyPost_ret (results_cell_row rfl _ _ (gz) 29 #[_, _, _, _, _] (0, 0) _ rfl (row_set5 hr.out _ _ _ _ _) Tryz.underlying29 rfl infoN) rfl ?_
        exact ⟨(by rw [HA.out]), Ok.set (Ok.set (Ok.set (Ok.set (Ok.set (HZ1.out) (show w0.heap.size ≤ gz by omega) _) (show w0.heap.size ≤ gz by omega) _) (show w0.heap.size ≤ gz by omega) _) (show w0.heap.size ≤ gz by omega) _) (show w0.heap.size ≤ gz by omega) _⟩
    · have HE : Hid (x = a) := by unfold Hid; rw [HX.out, if_neg h1]
      have d1 : (a.1 == v) = false := by simpa using h1
      clear h1 HX
      have he := HE.out
      clear HE
      subst he
      by_cases h2 : x.2.1 = v
      · have HA : Hid (r = belN x v) := by unfold Hid; rw [HR.out, if_pos h2]
        obtain ⟨y, hy⟩ : ∃ t, t = belN x v := ⟨_, rfl⟩
        have HY : Hid _ := hy
        clear hy
        have d2 : (x.2.1 == v) = true := by simpa using h2
        clear h2
        obtain ⟨a0, a1, a2, a3, a4, a5, a6, a7, a8, a9⟩ := row5_facts ra.out
        obtain ⟨k0, k1, k2, k3, k4, k5, k6, k7, k8, k9⟩ := row5_facts rz.out
        go_wp2_with fail
        clear a0 a1 a2 a3 a4 a5 a6 a7 a8 a9 k0 k1 k2 k3 k4 k5 k6 k7 k8 k9
        refine (vbelow_any x v RX.out IV.out w1 _ (Ok.refl _)).mono ?_
        rintro e x1 ⟨rfl, hb⟩
        rw [← HY.out]
        unfold nv
        replace ra : Hid _ := Ok.row' hb ra.out
        replace rz : Hid _ := Ok.row' hb rz.out
        have Hx1 : Hid (Ok w0 x1) := Hw1.out.step hb
        clear hb Hw1
        obtain ⟨a0, a1, a2, a3, a4, a5, a6, a7, a8, a9⟩ := row5_facts ra.out
        obtain ⟨k0, k1, k2, k3, k4, k5, k6, k7, k8, k9⟩ := row5_facts rz.out
        go_upto_region 8 with (fail)
        obtain ⟨Z2, hZ2⟩ : ∃ Z, Z = (((((x1.setCell ⟨ga, 0, none⟩ (.bool y.2.2.2.2)).setCell ⟨ga, 1, none⟩ (.int .i64 y.1)).setCell ⟨ga, 2, none⟩ (.int .i64 y.2.1)).setCell ⟨ga, 3, none⟩ (.int .u64 (y.2.2.1 : Int))).setCell ⟨ga, 4, none⟩ (.int .u64 (y.2.2.2.1 : Int))) := ⟨_, rfl⟩
        obtain ⟨HZ2, raz, keep⟩ := (rows_put1 ra.out Hx1.out (by omega) _ _ _ _ _ hZ2).out
        replace HZ2 : Hid (Ok w0 Z2) := HZ2
        replace raz : Hid _ := raz
        replace rz : Hid _ := keep _ _ (by omega) rz.out
        rw [← hZ2]
        clear hZ2 keep ra
        clear a0 a1 a2 a3 a4 a5 a6 a7 a8 a9 k0 k1 k2 k3 k4 k5 k6 k7 k8 k9
        obtain ⟨a0, a1, a2, a3, a4, a5, a6, a7, a8, a9⟩ := row5_facts raz.out
        obtain ⟨k0, k1, k2, k3, k4, k5, k6, k7, k8, k9⟩ := row5_facts rz.out
        go_wp2_with fail
        have hr : Hid _ := rz
        (try simp only [Exit.inBlock, Exit.then]); refine bodyPost_ret (results_cell_row rfl _ _ (gz) 29 #[_, _, _, _, _] (0, 0) _ rfl (row_set5 hr.out _ _ _ _ _) Tryz.underlying29 rfl infoN) rfl ?_
        exact ⟨(by rw [HA.out, ← HY.out]), Ok.set (Ok.set (Ok.set (Ok.set (Ok.set (HZ2.out) (show w0.heap.size ≤ gz by omega) _) (show w0.heap.size ≤ gz by omega) _) (show w0.heap.size ≤ gz by omega) _) (show w0.heap.size ≤ gz by omega) _) (show w0.heap.size ≤ gz by omega) _⟩
      · have HA : Hid (r = x) := by unfold Hid; rw [HR.out, if_neg h2]
        have d2 : (x.2.1 == v) = false := by simpa using h2
        clear h2
        obtain ⟨a0, a1, a2, a3, a4, a5, a6, a7, a8, a9⟩ := row5_facts ra.out
        obtain ⟨k0, k1, k2, k3, k4, k5, k6, k7, k8, k9⟩ := row5_facts rz.out
        go_wp2_with fail
        have hr : Hid _ := rz
        (try simp only [Exit.inBlock, Exit.then]); refine bodyPost_ret (results_cell_row rfl _ _ (gz) 29 #[_, _, _, _, _] (0, 0) _ rfl (row_set5 hr.out _ _ _ _ _) Tryz.underlying29 rfl infoN) rfl ?_
        exact ⟨(by rw [HA.out]), Ok.set (Ok.set (Ok.set (Ok.set (Ok.set (Hw1.out) (show w0.heap.size ≤ gz by omega) _) (show w0.heap.size ≤ gz by omega) _) (show w0.heap.size ≤ gz by omega) _) (show w0.heap.size ≤ gz by omega) _) (show w0.heap.size ≤ gz by omega) _⟩
end Go.Proofs.YtbkblijoimmdeaaGreat
