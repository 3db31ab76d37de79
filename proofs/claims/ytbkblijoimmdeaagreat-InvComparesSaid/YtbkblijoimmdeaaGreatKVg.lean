import Derived.Deep.Cut
import Derived.Deep.CutRange
import Derived.Test.YtbkblijoimmdeaaGreatKVe
set_option linter.unusedVariables false
set_option linter.unusedSimpArgs false
set_option linter.unnecessarySimpa false
/- Vf Vg -/
namespace Go.Proofs.YtbkblijoimmdeaaGreat
section
open Go.RowKit Go.Shelf
/-- A function value that tells l and r, now and later. -/
def Tells (w : World) (f : Value) (l r : Int × Int × Nat × Nat × Bool) : Prop := ∃ (fid : Nat) (caps : Array Value), f = .func (.func fid) #[] caps ∧ (∀ w : World, (callFunc fid caps).run Tryz.prog w = .ok (.enter fid caps) w) ∧ ∀ w1, Ok w w1 → Calls Tryz.prog fid caps w1 fun e w' => e = .returned (.tuple #[nv l, nv r]) ∧ Ok w1 w'
theorem run_mf (fn : Fn) (first cap : Array Value) (w : World) : (Instr.makeFunc fn first cap).run Tryz.prog w = .ok (.func fn first cap) w := rfl
def compN (op : Int) (x y : Int × Int × Nat × Nat × Bool) : (Int × Int × Nat × Nat × Bool) × (Int × Int × Nat × Nat × Bool) :=
  if op = 8 then (belN x y.2.1, aboN y x.1) else if op = 9 then (meetN x (clipN (-9223372036854775808) y.2.1), meetN y (clipN x.1 9223372036854775807)) else if op = 10 then (aboN x y.1, belN y x.2.1) else if op = 11 then (meetN x (clipN y.1 9223372036854775807), meetN y (clipN (-9223372036854775808) x.2.1)) else if op = 12 then (meetN x y, meetN x y) else (unlN x y, unlN y x)
def OpC (op : Int) : Prop := op = 8 ∨ op = 9 ∨ op = 10 ∨ op = 11 ∨ op = 12 ∨ op = 13

set_option maxRecDepth 100000 in
set_option maxHeartbeats 4000000 in
theorem vask_no (fid : Nat) (caps : Array Value) (w0 w : World) (hok : Ok w0 w) :
    Calls Tryz.prog 10 #[.func (.func fid) #[] caps, .bool false] w fun e w' => e = .returned (.tuple #[nv botN, nv botN, .int .i64 0]) ∧ Ok w0 w' := by
  have hle := hok.le
  have hnf := func_nil fid caps
  go_enter Tryz.func10, Tryz.ntmps10
  go_wp2_with fail
  obtain ⟨W, hW⟩ : ∃ W, W = ((w).alloc (.cells #[.bool false, .int .i64 0, .int .i64 0, .int .u64 0, .int .u64 0] 29)).alloc (.cells #[.bool false, .int .i64 0, .int .i64 0, .int .u64 0, .int .u64 0] 29) := ⟨_, rfl⟩
  have rp : Hid (W.heap[w.heap.size]? = some (.cells #[.bool false, .int .i64 0, .int .i64 0, .int .u64 0, .int .u64 0] 29)) := by unfold Hid; rw [hW]; exact (by repeat (first | (refine heap_at _ _ _ ?hx; case hx => (first | (simp; done) | (simp; omega))) | (refine heap_past _ _ _ ?hy ?_; case hy => (first | (simp; done) | (simp; omega))) | fail))
  have rq : Hid (W.heap[w.heap.size + 1]? = some (.cells #[.bool false, .int .i64 0, .int .i64 0, .int .u64 0, .int .u64 0] 29)) := by unfold Hid; rw [hW]; exact (by repeat (first | (refine heap_at _ _ _ ?hx; case hx => (first | (simp; done) | (simp; omega))) | (refine heap_past _ _ _ ?hy ?_; case hy => (first | (simp; done) | (simp; omega))) | fail))
  have HW : Hid (Ok w0 W) := by unfold Hid; rw [hW]; exact (by repeat (first | exact hok | refine Ok.alloc ?_ _ | refine Ok.draws ?_ _ | fail))
  rw [← hW]
  clear hW
  obtain ⟨gq, egq⟩ : ∃ g, g = w.heap.size + 1 := ⟨_, rfl⟩
  rw [← egq] at rq ⊢
  obtain ⟨gp, egp⟩ : ∃ g, g = w.heap.size := ⟨_, rfl⟩
  rw [← egp] at rp ⊢
  have lgp : w0.heap.size ≤ gp := by omega
  have ngpgq : ¬ gp = gq := by omega
  have lgq : w0.heap.size ≤ gq := by omega
  have ngqgp : ¬ gq = gp := by omega
  clear egp egq
  refine (nbot_any W _ (Ok.refl _)).mono ?_
  rintro e x1 ⟨rfl, hb⟩
  replace rp : Hid _ := Ok.row' hb rp.out
  replace rq : Hid _ := Ok.row' hb rq.out
  have Hx1 : Hid (Ok w0 x1) := HW.out.step hb
  clear hb
  unfold nv botN
  go_wp2_with fail
  refine (nbot_any x1 _ (Ok.refl _)).mono ?_
  rintro e x2 ⟨rfl, hb⟩
  replace rp : Hid _ := Ok.row' hb rp.out
  replace rq : Hid _ := Ok.row' hb rq.out
  have Hx2 : Hid (Ok w0 x2) := Hx1.out.step hb
  clear hb
  unfold nv botN
  obtain ⟨k0, k1, k2, k3, k4, k5, k6, k7, k8, k9⟩ := row5_facts rp.out
  obtain ⟨j0, j1, j2, j3, j4, j5, j6, j7, j8, j9⟩ := row5_facts rq.out
  go_wp2_with fail
  obtain ⟨Y, hY⟩ : ∃ V, V = ((((((((((x2.setCell ⟨gp, 0, none⟩ (.bool true)).setCell ⟨gp, 1, none⟩ (.int .i64 0)).setCell ⟨gp, 2, none⟩ (.int .i64 0)).setCell ⟨gp, 3, none⟩ (.int .u64 0)).setCell ⟨gp, 4, none⟩ (.int .u64 0)).setCell ⟨gq, 0, none⟩ (.bool true)).setCell ⟨gq, 1, none⟩ (.int .i64 0)).setCell ⟨gq, 2, none⟩ (.int .i64 0)).setCell ⟨gq, 3, none⟩ (.int .u64 0)).setCell ⟨gq, 4, none⟩ (.int .u64 0)) := ⟨_, rfl⟩
  have hp := rows_putr ngpgq rp.out rq.out Hx2.out (by omega) (by omega) _ _ _ _ _ _ _ _ _ _ hY
  rw [← hY]
  clear hY
  refine bodyPost_ret (results_2ct rfl _ _ gp gq 29 #[_, _, _, _, _] #[_, _, _, _, _] (0, 0) _ rfl rfl hp.2.1 hp.2.2 Tryz.underlying29 rfl infoN infoN) rfl ?_
  exact ⟨rfl, hp.1⟩
set_option maxRecDepth 100000 in
set_option maxHeartbeats 4000000 in
theorem vask_nil (s : Bool) (w0 w : World) (hok : Ok w0 w) :
    Calls Tryz.prog 10 #[.nilFunc, .bool s] w fun e w' => e = .returned (.tuple #[nv botN, nv botN, .int .i64 1]) ∧ Ok w0 w' := by
  have hle := hok.le
  have hnf := nil_nil
  go_enter Tryz.func10, Tryz.ntmps10
  go_wp2_with fail
  obtain ⟨W, hW⟩ : ∃ W, W = ((w).alloc (.cells #[.bool false, .int .i64 0, .int .i64 0, .int .u64 0, .int .u64 0] 29)).alloc (.cells #[.bool false, .int .i64 0, .int .i64 0, .int .u64 0, .int .u64 0] 29) := ⟨_, rfl⟩
  have rp : Hid (W.heap[w.heap.size]? = some (.cells #[.bool false, .int .i64 0, .int .i64 0, .int .u64 0, .int .u64 0] 29)) := by unfold Hid; rw [hW]; exact (by repeat (first | (refine heap_at _ _ _ ?hx; case hx => (first | (simp; done) | (simp; omega))) | (refine heap_past _ _ _ ?hy ?_; case hy => (first | (simp; done) | (simp; omega))) | fail))
  have rq : Hid (W.heap[w.heap.size + 1]? = some (.cells #[.bool false, .int .i64 0, .int .i64 0, .int .u64 0, .int .u64 0] 29)) := by unfold Hid; rw [hW]; exact (by repeat (first | (refine heap_at _ _ _ ?hx; case hx => (first | (simp; done) | (simp; omega))) | (refine heap_past _ _ _ ?hy ?_; case hy => (first | (simp; done) | (simp; omega))) | fail))
  have HW : Hid (Ok w0 W) := by unfold Hid; rw [hW]; exact (by repeat (first | exact hok | refine Ok.alloc ?_ _ | refine Ok.draws ?_ _ | fail))
  rw [← hW]
  clear hW
  obtain ⟨gq, egq⟩ : ∃ g, g = w.heap.size + 1 := ⟨_, rfl⟩
  rw [← egq] at rq ⊢
  obtain ⟨gp, egp⟩ : ∃ g, g = w.heap.size := ⟨_, rfl⟩
  rw [← egp] at rp ⊢
  have lgp : w0.heap.size ≤ gp := by omega
  have ngpgq : ¬ gp = gq := by omega
  have lgq : w0.heap.size ≤ gq := by omega
  have ngqgp : ¬ gq = gp := by omega
  clear egp egq
  refine (nbot_any W _ (Ok.refl _)).mono ?_
  rintro e x1 ⟨rfl, hb⟩
  replace rp : Hid _ := Ok.row' hb rp.out
  replace rq : Hid _ := Ok.row' hb rq.out
  have Hx1 : Hid (Ok w0 x1) := HW.out.step hb
  clear hb
  unfold nv botN
  go_wp2_with fail
  refine (nbot_any x1 _ (Ok.refl _)).mono ?_
  rintro e x2 ⟨rfl, hb⟩
  replace rp : Hid _ := Ok.row' hb rp.out
  replace rq : Hid _ := Ok.row' hb rq.out
  have Hx2 : Hid (Ok w0 x2) := Hx1.out.step hb
  clear hb
  unfold nv botN
  obtain ⟨k0, k1, k2, k3, k4, k5, k6, k7, k8, k9⟩ := row5_facts rp.out
  obtain ⟨j0, j1, j2, j3, j4, j5, j6, j7, j8, j9⟩ := row5_facts rq.out
  go_wp2_with fail
  obtain ⟨Y, hY⟩ : ∃ V, V = ((((((((((x2.setCell ⟨gp, 0, none⟩ (.bool true)).setCell ⟨gp, 1, none⟩ (.int .i64 0)).setCell ⟨gp, 2, none⟩ (.int .i64 0)).setCell ⟨gp, 3, none⟩ (.int .u64 0)).setCell ⟨gp, 4, none⟩ (.int .u64 0)).setCell ⟨gq, 0, none⟩ (.bool true)).setCell ⟨gq, 1, none⟩ (.int .i64 0)).setCell ⟨gq, 2, none⟩ (.int .i64 0)).setCell ⟨gq, 3, none⟩ (.int .u64 0)).setCell ⟨gq, 4, none⟩ (.int .u64 0)) := ⟨_, rfl⟩
  have hp := rows_putr ngpgq rp.out rq.out Hx2.out (by omega) (by omega) _ _ _ _ _ _ _ _ _ _ hY
  rw [← hY]
  clear hY
  refine bodyPost_ret (results_2ct rfl _ _ gp gq 29 #[_, _, _, _, _] #[_, _, _, _, _] (0, 0) _ rfl rfl hp.2.1 hp.2.2 Tryz.underlying29 rfl infoN infoN) rfl ?_
  exact ⟨rfl, hp.1⟩
set_option maxRecDepth 100000 in
set_option maxHeartbeats 4000000 in
theorem vclo3 (x y : Int × Int × Nat × Nat × Bool) (hx : RawN x) (hy : RawN y) (ga gb : Nat) (w : World) (ra0 : w.heap[ga]? = some (.cells #[.bool x.2.2.2.2, .int .i64 x.1, .int .i64 x.2.1, .int .u64 (x.2.2.1 : Int), .int .u64 (x.2.2.2.1 : Int)] 29)) (rb0 : w.heap[gb]? = some (.cells #[.bool y.2.2.2.2, .int .i64 y.1, .int .i64 y.2.1, .int .u64 (y.2.2.1 : Int), .int .u64 (y.2.2.2.1 : Int)] 29)) :
    Calls Tryz.prog 35 #[.pointer (some ⟨ga, 0, none⟩), .pointer (some ⟨gb, 0, none⟩)] w fun e w' => e = .returned (.tuple #[nv (meetN x y), nv (meetN x y)]) ∧ Ok w w' := by
  have HU : Hid (RawN x ∧ RawN y) := ⟨hx, hy⟩
  clear hx hy
  obtain ⟨m, hm⟩ : ∃ t, t = meetN x y := ⟨_, rfl⟩
  rw [← hm]
  have HM : Hid _ := hm
  clear hm
  have hok := Ok.refl w
  have zz := row5_facts (ra0)
  have a0 := zz.1
  have a1 := zz.2.1
  have a2 := zz.2.2.1
  have a3 := zz.2.2.2.1
  have a4 := zz.2.2.2.2.1
  have a5 := zz.2.2.2.2.2.1
  have a6 := zz.2.2.2.2.2.2.1
  have a7 := zz.2.2.2.2.2.2.2.1
  have a8 := zz.2.2.2.2.2.2.2.2.1
  have a9 := zz.2.2.2.2.2.2.2.2.2
  clear zz
  have zz := row5_facts (rb0)
  have b0 := zz.1
  have b1 := zz.2.1
  have b2 := zz.2.2.1
  have b3 := zz.2.2.2.1
  have b4 := zz.2.2.2.2.1
  have b5 := zz.2.2.2.2.2.1
  have b6 := zz.2.2.2.2.2.2.1
  have b7 := zz.2.2.2.2.2.2.2.1
  have b8 := zz.2.2.2.2.2.2.2.2.1
  have b9 := zz.2.2.2.2.2.2.2.2.2
  clear zz
  have hla := lt_row ra0
  have hlb := lt_row rb0
  have ra : Hid _ := ra0
  have rb : Hid _ := rb0
  clear ra0 rb0
  go_enter Tryz.func35, Tryz.ntmps35
  go_wp2_with fail
  obtain ⟨W, hW⟩ : ∃ W, W = ((w).alloc (.cells #[.bool false, .int .i64 0, .int .i64 0, .int .u64 0, .int .u64 0] 29)).alloc (.cells #[.bool false, .int .i64 0, .int .i64 0, .int .u64 0, .int .u64 0] 29) := ⟨_, rfl⟩
  have rp : Hid (W.heap[w.heap.size]? = some (.cells #[.bool false, .int .i64 0, .int .i64 0, .int .u64 0, .int .u64 0] 29)) := by unfold Hid; rw [hW]; exact (by repeat (first | (refine heap_at _ _ _ ?hx; case hx => (first | (simp; done) | (simp; omega))) | (refine heap_past _ _ _ ?hy ?_; case hy => (first | (simp; done) | (simp; omega))) | fail))
  have rq : Hid (W.heap[w.heap.size + 1]? = some (.cells #[.bool false, .int .i64 0, .int .i64 0, .int .u64 0, .int .u64 0] 29)) := by unfold Hid; rw [hW]; exact (by repeat (first | (refine heap_at _ _ _ ?hx; case hx => (first | (simp; done) | (simp; omega))) | (refine heap_past _ _ _ ?hy ?_; case hy => (first | (simp; done) | (simp; omega))) | fail))
  have HW : Hid (Ok w W) := by unfold Hid; rw [hW]; exact (by repeat (first | exact hok | refine Ok.alloc ?_ _ | refine Ok.draws ?_ _ | fail))
  rw [← hW]
  clear hW
  obtain ⟨gq, egq⟩ : ∃ g, g = w.heap.size + 1 := ⟨_, rfl⟩
  rw [← egq] at rq ⊢
  obtain ⟨gp, egp⟩ : ∃ g, g = w.heap.size := ⟨_, rfl⟩
  rw [← egp] at rp ⊢
  have lgp : w.heap.size ≤ gp := by omega
  have ngpgq : ¬ gp = gq := by omega
  have lgq : w.heap.size ≤ gq := by omega
  have ngqgp : ¬ gq = gp := by omega
  clear egp egq
  refine (nmeet_any x y HU.out.1 HU.out.2 W _ (Ok.refl _)).mono ?_
  rintro e w1 ⟨rfl, hb⟩
  rw [← HM.out]
  unfold nv
  replace rp : Hid _ := Ok.row' hb rp.out
  replace rq : Hid _ := Ok.row' hb rq.out
  have Hw1 : Hid (Ok w w1) := HW.out.step hb
  clear hb HW
  go_upto_region 2 with (fail)
  obtain ⟨Z, hZ⟩ : ∃ W, W = w1.alloc (.cells #[.bool m.2.2.2.2, .int .i64 m.1, .int .i64 m.2.1, .int .u64 (m.2.2.1 : Int), .int .u64 (m.2.2.2.1 : Int)] 29) := ⟨_, rfl⟩
  have rl : Hid (Z.heap[w1.heap.size]? = some (.cells #[.bool m.2.2.2.2, .int .i64 m.1, .int .i64 m.2.1, .int .u64 (m.2.2.1 : Int), .int .u64 (m.2.2.2.1 : Int)] 29)) := by unfold Hid; rw [hZ]; exact heap_new0 _ _
  have hO : Ok w1 Z := by rw [hZ]; exact (Ok.refl _).alloc _
  rw [← hZ]
  have q1 := lt_row rp.out
  have q2 := lt_row rq.out
  obtain ⟨gl, egl⟩ : ∃ g, g = w1.heap.size := ⟨_, rfl⟩
  rw [← egl] at rl ⊢
  have dglgp : ¬ gl = gp := by omega
  have dglgq : ¬ gl = gq := by omega
  have dgpgl : ¬ gp = gl := by omega
  have dgqgl : ¬ gq = gl := by omega
  clear hZ egl q1 q2
  replace rp : Hid _ := Ok.row' hO rp.out
  replace rq : Hid _ := Ok.row' hO rq.out
  have HZ : Hid (Ok w Z) := Hw1.out.step hO
  clear hO Hw1 a0 a1 a2 a3 a4 a5 a6 a7 a8 a9 b0 b1 b2 b3 b4 b5 b6 b7 b8 b9
  obtain ⟨a0, a1, a2, a3, a4, a5, a6, a7, a8, a9⟩ := row5_facts rl.out
  obtain ⟨k0, k1, k2, k3, k4, k5, k6, k7, k8, k9⟩ := row5_facts rp.out
  obtain ⟨j0, j1, j2, j3, j4, j5, j6, j7, j8, j9⟩ := row5_facts rq.out
  go_region
  go_wp2_with fail
  obtain ⟨Y, hY⟩ : ∃ V, V = ((((((((((Z.setCell ⟨gp, 0, none⟩ (.bool m.2.2.2.2)).setCell ⟨gp, 1, none⟩ (.int .i64 m.1)).setCell ⟨gp, 2, none⟩ (.int .i64 m.2.1)).setCell ⟨gp, 3, none⟩ (.int .u64 (m.2.2.1 : Int))).setCell ⟨gp, 4, none⟩ (.int .u64 (m.2.2.2.1 : Int))).setCell ⟨gq, 0, none⟩ (.bool m.2.2.2.2)).setCell ⟨gq, 1, none⟩ (.int .i64 m.1)).setCell ⟨gq, 2, none⟩ (.int .i64 m.2.1)).setCell ⟨gq, 3, none⟩ (.int .u64 (m.2.2.1 : Int))).setCell ⟨gq, 4, none⟩ (.int .u64 (m.2.2.2.1 : Int))) := ⟨_, rfl⟩
  have hp := rows_putr ngpgq rp.out rq.out HZ.out (by omega) (by omega) _ _ _ _ _ _ _ _ _ _ hY
  rw [← hY]
  clear hY
  have hd : Ok Y Y.drew := Below.drew (Ok.refl Y)
  refine bodyPost_ret (results_2c rfl _ _ gp gq 29 #[_, _, _, _, _] #[_, _, _, _, _] (0, 0) _ rfl rfl (Ok.row' hd hp.2.1) (Ok.row' hd hp.2.2) Tryz.underlying29 rfl infoN infoN) rfl ?_
  exact ⟨rfl, Below.drew hp.1⟩
set_option maxRecDepth 100000 in
set_option maxHeartbeats 4000000 in
theorem vabout1 (fid : Nat) (caps : Array Value) (l r : Int × Int × Nat × Nat × Bool) (hen : ∀ w : World, (callFunc fid caps).run Tryz.prog w = .ok (.enter fid caps) w) (gf : Nat) (w : World) (rf : w.heap[gf]? = some (.cells #[.func (.func fid) #[] caps] 40 (0, 0))) (hf : ∀ w1, Ok w w1 → Calls Tryz.prog fid caps w1 fun e w' => e = .returned (.tuple #[nv l, nv r]) ∧ Ok w1 w') :
    Calls Tryz.prog 52 #[.pointer (some ⟨gf, 0, none⟩)] w fun e w' => e = .returned (.tuple #[nv r, nv l]) ∧ Ok w w' := by
  have HF : Hid (∀ w1, Ok w w1 → Calls Tryz.prog fid caps w1 fun e w' => e = .returned (.tuple #[nv l, nv r]) ∧ Ok w1 w') := hf
  have hok := Ok.refl w
  have c0 := row1_cell rf
  have hlf := lt_row rf
  clear hf
  go_enter Tryz.func52, Tryz.ntmps52
  go_wp2_with fail
  obtain ⟨W, hW⟩ : ∃ W, W = ((w).alloc (.cells #[.bool false, .int .i64 0, .int .i64 0, .int .u64 0, .int .u64 0] 29)).alloc (.cells #[.bool false, .int .i64 0, .int .i64 0, .int .u64 0, .int .u64 0] 29) := ⟨_, rfl⟩
  have rp : Hid (W.heap[w.heap.size]? = some (.cells #[.bool false, .int .i64 0, .int .i64 0, .int .u64 0, .int .u64 0] 29)) := by unfold Hid; rw [hW]; exact (by repeat (first | (refine heap_at _ _ _ ?hx; case hx => (first | (simp; done) | (simp; omega))) | (refine heap_past _ _ _ ?hy ?_; case hy => (first | (simp; done) | (simp; omega))) | fail))
  have rq : Hid (W.heap[w.heap.size + 1]? = some (.cells #[.bool false, .int .i64 0, .int .i64 0, .int .u64 0, .int .u64 0] 29)) := by unfold Hid; rw [hW]; exact (by repeat (first | (refine heap_at _ _ _ ?hx; case hx => (first | (simp; done) | (simp; omega))) | (refine heap_past _ _ _ ?hy ?_; case hy => (first | (simp; done) | (simp; omega))) | fail))
  have HW : Hid (Ok w W) := by unfold Hid; rw [hW]; exact (by repeat (first | exact hok | refine Ok.alloc ?_ _ | refine Ok.draws ?_ _ | fail))
  rw [← hW]
  clear hW
  obtain ⟨gq, egq⟩ : ∃ g, g = w.heap.size + 1 := ⟨_, rfl⟩
  rw [← egq] at rq ⊢
  obtain ⟨gp, egp⟩ : ∃ g, g = w.heap.size := ⟨_, rfl⟩
  rw [← egp] at rp ⊢
  have lgp : w.heap.size ≤ gp := by omega
  have ngpgq : ¬ gp = gq := by omega
  have lgq : w.heap.size ≤ gq := by omega
  have ngqgp : ¬ gq = gp := by omega
  clear egp egq
  refine (HF.out W HW.out).mono ?_
  rintro e w1 ⟨rfl, hb⟩
  unfold nv
  replace rp : Hid _ := Ok.row' hb rp.out
  replace rq : Hid _ := Ok.row' hb rq.out
  have Hw1 : Hid (Ok w w1) := HW.out.step hb
  clear hb HW HF
  go_upto_region 2 with (fail)
  obtain ⟨Z, hZ⟩ : ∃ W, W = (w1.alloc (.cells #[.bool l.2.2.2.2, .int .i64 l.1, .int .i64 l.2.1, .int .u64 (l.2.2.1 : Int), .int .u64 (l.2.2.2.1 : Int)] 29)).alloc (.cells #[.bool r.2.2.2.2, .int .i64 r.1, .int .i64 r.2.1, .int .u64 (r.2.2.1 : Int), .int .u64 (r.2.2.2.1 : Int)] 29) := ⟨_, rfl⟩
  have rl : Hid (Z.heap[w1.heap.size]? = some (.cells #[.bool l.2.2.2.2, .int .i64 l.1, .int .i64 l.2.1, .int .u64 (l.2.2.1 : Int), .int .u64 (l.2.2.2.1 : Int)] 29)) := by unfold Hid; rw [hZ]; exact (by repeat (first | (refine heap_at _ _ _ ?hx; case hx => (first | (simp; done) | (simp; omega))) | (refine heap_past _ _ _ ?hy ?_; case hy => (first | (simp; done) | (simp; omega))) | fail))
  have rr : Hid (Z.heap[w1.heap.size + 1]? = some (.cells #[.bool r.2.2.2.2, .int .i64 r.1, .int .i64 r.2.1, .int .u64 (r.2.2.1 : Int), .int .u64 (r.2.2.2.1 : Int)] 29)) := by unfold Hid; rw [hZ]; exact (by repeat (first | (refine heap_at _ _ _ ?hx; case hx => (first | (simp; done) | (simp; omega))) | (refine heap_past _ _ _ ?hy ?_; case hy => (first | (simp; done) | (simp; omega))) | fail))
  have hO : Ok w1 Z := by rw [hZ]; exact ((Ok.refl _).alloc _).alloc _
  rw [← hZ]
  have q1 := lt_row rp.out
  have q2 := lt_row rq.out
  obtain ⟨gr, egr⟩ : ∃ g, g = w1.heap.size + 1 := ⟨_, rfl⟩
  rw [← egr] at rr ⊢
  obtain ⟨gl, egl⟩ : ∃ g, g = w1.heap.size := ⟨_, rfl⟩
  rw [← egl] at rl ⊢
  have dglgp : ¬ gl = gp := by omega
  have dglgq : ¬ gl = gq := by omega
  have dgrgp : ¬ gr = gp := by omega
  have dgrgq : ¬ gr = gq := by omega
  have dgpgl : ¬ gp = gl := by omega
  have dgqgl : ¬ gq = gl := by omega
  have dgpgr : ¬ gp = gr := by omega
  have dgqgr : ¬ gq = gr := by omega
  clear hZ egr egl q1 q2
  replace rp : Hid _ := Ok.row' hO rp.out
  replace rq : Hid _ := Ok.row' hO rq.out
  have HZ : Hid (Ok w Z) := Hw1.out.step hO
  clear hO Hw1
  obtain ⟨a0, a1, a2, a3, a4, a5, a6, a7, a8, a9⟩ := row5_facts rl.out
  obtain ⟨b0, b1, b2, b3, b4, b5, b6, b7, b8, b9⟩ := row5_facts rr.out
  obtain ⟨k0, k1, k2, k3, k4, k5, k6, k7, k8, k9⟩ := row5_facts rp.out
  obtain ⟨j0, j1, j2, j3, j4, j5, j6, j7, j8, j9⟩ := row5_facts rq.out
  go_region
  go_wp2_with fail
  obtain ⟨Y, hY⟩ : ∃ V, V = ((((((((((Z.setCell ⟨gp, 0, none⟩ (.bool r.2.2.2.2)).setCell ⟨gp, 1, none⟩ (.int .i64 r.1)).setCell ⟨gp, 2, none⟩ (.int .i64 r.2.1)).setCell ⟨gp, 3, none⟩ (.int .u64 (r.2.2.1 : Int))).setCell ⟨gp, 4, none⟩ (.int .u64 (r.2.2.2.1 : Int))).setCell ⟨gq, 0, none⟩ (.bool l.2.2.2.2)).setCell ⟨gq, 1, none⟩ (.int .i64 l.1)).setCell ⟨gq, 2, none⟩ (.int .i64 l.2.1)).setCell ⟨gq, 3, none⟩ (.int .u64 (l.2.2.1 : Int))).setCell ⟨gq, 4, none⟩ (.int .u64 (l.2.2.2.1 : Int))) := ⟨_, rfl⟩
  have hp := rows_putr ngpgq rp.out rq.out HZ.out (by omega) (by omega) _ _ _ _ _ _ _ _ _ _ hY
  rw [← hY]
  clear hY
  have hd : Ok Y Y.drew := Below.drew (Ok.refl Y)
  refine bodyPost_ret (results_2c rfl _ _ gp gq 29 #[_, _, _, _, _] #[_, _, _, _, _] (0, 0) _ rfl rfl (Ok.row' hd hp.2.1) (Ok.row' hd hp.2.2) Tryz.underlying29 rfl infoN infoN) rfl ?_
  exact ⟨rfl, Below.drew hp.1⟩
end
section
open Go.RowKit Go.Shelf
def CPost (w0 : World) (l r : Int × Int × Nat × Nat × Bool) (e : Ending) (w' : World) : Prop := ∃ f, e = .returned f ∧ Tells w' f l r ∧ Ok w0 w'
set_option maxHeartbeats 400000 in
theorem vabout_any (fid : Nat) (caps : Array Value) (w : World) :
    Calls Tryz.prog 34 #[.func (.func fid) #[] caps] w fun e w' => e = .returned (.func (.func 52) #[] #[.pointer (some ⟨w.heap.size, 0, none⟩)]) ∧ w' = w.alloc (.cells #[.func (.func fid) #[] caps] 40) := by
  have hmf := run_mf
  go_enter Tryz.func34, Tryz.ntmps34
  go_wp2_with fail
  go_ret
  exact ⟨rfl, rfl⟩
theorem tells_about {w w2 : World} {l r : Int × Int × Nat × Nat × Bool} {fid : Nat} {caps : Array Value} (hen : ∀ w : World, (callFunc fid caps).run Tryz.prog w = .ok (.enter fid caps) w) (hf : ∀ w1, Ok w w1 → Calls Tryz.prog fid caps w1 fun e w' => e = .returned (.tuple #[nv l, nv r]) ∧ Ok w1 w') (e2 : w2 = w.alloc (.cells #[.func (.func fid) #[] caps] 40)) :
    Tells w2 (.func (.func 52) #[] #[.pointer (some ⟨w.heap.size, 0, none⟩)]) r l := by
  refine ⟨52, #[.pointer (some ⟨w.heap.size, 0, none⟩)], rfl, fun w => by kernel_rfl, fun w1 h1 => ?_⟩
  subst e2
  exact vabout1 fid caps l r hen _ w1 (Ok.row' h1 (heap_new0 _ _)) (fun w3 h3 => hf w3 ((Ok.alloc (Ok.refl w) _).step h1 |>.step h3))

set_option maxRecDepth 100000 in
set_option maxHeartbeats 4000000 in
theorem vcomparing_8 (x y : Int × Int × Nat × Nat × Bool) (hx : RawN x) (hy : RawN y) (w0 w : World) (hok : Ok w0 w) :
    Calls Tryz.prog 11 #[.int .i64 8, nv x, nv y] w (CPost w0 (compN 8 x y).1 (compN 8 x y).2) := by
  have hmf := run_mf
  have HX : Hid (RawN x ∧ RawN y) := ⟨hx, hy⟩
  clear hx hy
  obtain ⟨L, hL⟩ : ∃ t, t = (compN 8 x y).1 := ⟨_, rfl⟩
  obtain ⟨R, hR⟩ : ∃ t, t = (compN 8 x y).2 := ⟨_, rfl⟩
  rw [← hL, ← hR]
  have HL : Hid _ := hL
  have HR : Hid _ := hR
  clear hL hR
  unfold nv
  go_enter Tryz.func11, Tryz.ntmps11
  go_wp2_with fail
  go_ret
  refine ⟨_, rfl, ⟨26, _, rfl, fun w => by kernel_rfl, fun w1 h1 => ?_⟩, (hok.alloc _).alloc _⟩
  rw [HL.out, HR.out]
  exact vclo1 x y HX.out.1 HX.out.2 _ _ w1 (Ok.row' h1 (by repeat (first | (refine heap_at _ _ _ ?hx; case hx => (first | (simp; done) | (simp; omega))) | (refine heap_past _ _ _ ?hy ?_; case hy => (first | (simp; done) | (simp; omega))) | fail))) (Ok.row' h1 (by repeat (first | (refine heap_at _ _ _ ?hx; case hx => (first | (simp; done) | (simp; omega))) | (refine heap_past _ _ _ ?hy ?_; case hy => (first | (simp; done) | (simp; omega))) | fail)))
set_option maxRecDepth 100000 in
set_option maxHeartbeats 4000000 in
theorem vcomparing_9 (x y : Int × Int × Nat × Nat × Bool) (hx : RawN x) (hy : RawN y) (w0 w : World) (hok : Ok w0 w) :
    Calls Tryz.prog 11 #[.int .i64 9, nv x, nv y] w (CPost w0 (compN 9 x y).1 (compN 9 x y).2) := by
  have hmf := run_mf
  have HX : Hid (RawN x ∧ RawN y) := ⟨hx, hy⟩
  clear hx hy
  obtain ⟨L, hL⟩ : ∃ t, t = (compN 9 x y).1 := ⟨_, rfl⟩
  obtain ⟨R, hR⟩ : ∃ t, t = (compN 9 x y).2 := ⟨_, rfl⟩
  rw [← hL, ← hR]
  have HL : Hid _ := hL
  have HR : Hid _ := hR
  clear hL hR
  unfold nv
  go_enter Tryz.func11, Tryz.ntmps11
  go_wp2_with fail
  go_ret
  refine ⟨_, rfl, ⟨29, _, rfl, fun w => by kernel_rfl, fun w1 h1 => ?_⟩, (hok.alloc _).alloc _⟩
  rw [HL.out, HR.out]
  exact vclo2 x y HX.out.1 HX.out.2 _ _ w1 (Ok.row' h1 (by repeat (first | (refine heap_at _ _ _ ?hx; case hx => (first | (simp; done) | (simp; omega))) | (refine heap_past _ _ _ ?hy ?_; case hy => (first | (simp; done) | (simp; omega))) | fail))) (Ok.row' h1 (by repeat (first | (refine heap_at _ _ _ ?hx; case hx => (first | (simp; done) | (simp; omega))) | (refine heap_past _ _ _ ?hy ?_; case hy => (first | (simp; done) | (simp; omega))) | fail)))
set_option maxRecDepth 100000 in
set_option maxHeartbeats 4000000 in
theorem vcomparing_12 (x y : Int × Int × Nat × Nat × Bool) (hx : RawN x) (hy : RawN y) (w0 w : World) (hok : Ok w0 w) :
    Calls Tryz.prog 11 #[.int .i64 12, nv x, nv y] w (CPost w0 (compN 12 x y).1 (compN 12 x y).2) := by
  have hmf := run_mf
  have HX : Hid (RawN x ∧ RawN y) := ⟨hx, hy⟩
  clear hx hy
  obtain ⟨L, hL⟩ : ∃ t, t = (compN 12 x y).1 := ⟨_, rfl⟩
  obtain ⟨R, hR⟩ : ∃ t, t = (compN 12 x y).2 := ⟨_, rfl⟩
  rw [← hL, ← hR]
  have HL : Hid _ := hL
  have HR : Hid _ := hR
  clear hL hR
  unfold nv
  go_enter Tryz.func11, Tryz.ntmps11
  go_wp2_with fail
  go_ret
  refine ⟨_, rfl, ⟨35, _, rfl, fun w => by kernel_rfl, fun w1 h1 => ?_⟩, (hok.alloc _).alloc _⟩
  rw [HL.out, HR.out]
  exact vclo3 x y HX.out.1 HX.out.2 _ _ w1 (Ok.row' h1 (by repeat (first | (refine heap_at _ _ _ ?hx; case hx => (first | (simp; done) | (simp; omega))) | (refine heap_past _ _ _ ?hy ?_; case hy => (first | (simp; done) | (simp; omega))) | fail))) (Ok.row' h1 (by repeat (first | (refine heap_at _ _ _ ?hx; case hx => (first | (simp; done) | (simp; omega))) | (refine heap_past _ _ _ ?hy ?_; case hy => (first | (simp; done) | (simp; omega))) | fail)))
set_option maxRecDepth 100000 in
set_option maxHeartbeats 4000000 in
theorem vcomparing_13 (x y : Int × Int × Nat × Nat × Bool) (hx : RawN x) (hy : RawN y) (w0 w : World) (hok : Ok w0 w) :
    Calls Tryz.prog 11 #[.int .i64 13, nv x, nv y] w (CPost w0 (compN 13 x y).1 (compN 13 x y).2) := by
  have hmf := run_mf
  have HX : Hid (RawN x ∧ RawN y) := ⟨hx, hy⟩
  clear hx hy
  obtain ⟨L, hL⟩ : ∃ t, t = (compN 13 x y).1 := ⟨_, rfl⟩
  obtain ⟨R, hR⟩ : ∃ t, t = (compN 13 x y).2 := ⟨_, rfl⟩
  rw [← hL, ← hR]
  have HL : Hid _ := hL
  have HR : Hid _ := hR
  clear hL hR
  unfold nv
  go_enter Tryz.func11, Tryz.ntmps11
  go_wp2_with fail
  go_ret
  refine ⟨_, rfl, ⟨36, _, rfl, fun w => by kernel_rfl, fun w1 h1 => ?_⟩, (hok.alloc _).alloc _⟩
  rw [HL.out, HR.out]
  exact vclo4 x y HX.out.1 HX.out.2 _ _ w1 (Ok.row' h1 (by repeat (first | (refine heap_at _ _ _ ?hx; case hx => (first | (simp; done) | (simp; omega))) | (refine heap_past _ _ _ ?hy ?_; case hy => (first | (simp; done) | (simp; omega))) | fail))) (Ok.row' h1 (by repeat (first | (refine heap_at _ _ _ ?hx; case hx => (first | (simp; done) | (simp; omega))) | (refine heap_past _ _ _ ?hy ?_; case hy => (first | (simp; done) | (simp; omega))) | fail)))
set_option maxRecDepth 100000 in
set_option maxHeartbeats 4000000 in
theorem vcomparing_10 (x y : Int × Int × Nat × Nat × Bool) (hx : RawN x) (hy : RawN y) (w0 w : World) (hok : Ok w0 w) :
    Calls Tryz.prog 11 #[.int .i64 10, nv x, nv y] w (CPost w0 (compN 10 x y).1 (compN 10 x y).2) := by
  have hle := hok.le
  have HX : Hid (RawN x ∧ RawN y) := ⟨hx, hy⟩
  clear hx hy
  obtain ⟨L, hL⟩ : ∃ t, t = (compN 10 x y).1 := ⟨_, rfl⟩
  obtain ⟨R, hR⟩ : ∃ t, t = (compN 10 x y).2 := ⟨_, rfl⟩
  have HL : Hid (L = (compN 8 y x).2) := by rw [hL]; exact rfl
  have HR : Hid (R = (compN 8 y x).1) := by rw [hR]; exact rfl
  rw [← hL, ← hR]
  clear hL hR
  unfold nv
  go_enter Tryz.func11, Tryz.ntmps11
  go_wp2_with fail
  obtain ⟨W, hW⟩ : ∃ W, W = ((w).alloc (.cells #[.bool x.2.2.2.2, .int .i64 x.1, .int .i64 x.2.1, .int .u64 (x.2.2.1 : Int), .int .u64 (x.2.2.2.1 : Int)] 29)).alloc (.cells #[.bool y.2.2.2.2, .int .i64 y.1, .int .i64 y.2.1, .int .u64 (y.2.2.1 : Int), .int .u64 (y.2.2.2.1 : Int)] 29) := ⟨_, rfl⟩
  have HW : Hid (Ok w0 W) := by unfold Hid; rw [hW]; exact (by repeat (first | exact hok | refine Ok.alloc ?_ _ | refine Ok.draws ?_ _ | fail))
  rw [← hW]
  clear hW
  refine (vcomparing_8 y x HX.out.2 HX.out.1 W _ (Ok.refl _)).mono ?_
  rintro e w1 ⟨f, rfl, hT, hb⟩
  rw [← HL.out, ← HR.out] at hT
  obtain ⟨fid, caps, rfl, hen, hf⟩ := hT
  have HF : Hid _ := And.intro hen hf
  have Hw1 : Hid (Ok w0 w1) := HW.out.step hb
  clear hen hf hb HW
  go_wp2_with fail
  refine (vabout_any fid caps w1).mono ?_
  rintro e w2 ⟨rfl, e2⟩
  have E2 : Hid _ := e2
  clear e2
  go_wp2_with fail
  go_ret
  exact ⟨_, rfl, tells_about HF.out.1 HF.out.2 E2.out, by rw [E2.out]; exact Hw1.out.alloc _⟩
set_option maxRecDepth 100000 in
set_option maxHeartbeats 4000000 in
theorem vcomparing_11 (x y : Int × Int × Nat × Nat × Bool) (hx : RawN x) (hy : RawN y) (w0 w : World) (hok : Ok w0 w) :
    Calls Tryz.prog 11 #[.int .i64 11, nv x, nv y] w (CPost w0 (compN 11 x y).1 (compN 11 x y).2) := by
  have hle := hok.le
  have HX : Hid (RawN x ∧ RawN y) := ⟨hx, hy⟩
  clear hx hy
  obtain ⟨L, hL⟩ : ∃ t, t = (compN 11 x y).1 := ⟨_, rfl⟩
  obtain ⟨R, hR⟩ : ∃ t, t = (compN 11 x y).2 := ⟨_, rfl⟩
  have HL : Hid (L = (compN 9 y x).2) := by rw [hL]; exact rfl
  have HR : Hid (R = (compN 9 y x).1) := by rw [hR]; exact rfl
  rw [← hL, ← hR]
  clear hL hR
  unfold nv
  go_enter Tryz.func11, Tryz.ntmps11
  go_wp2_with fail
  obtain ⟨W, hW⟩ : ∃ W, W = ((w).alloc (.cells #[.bool x.2.2.2.2, .int .i64 x.1, .int .i64 x.2.1, .int .u64 (x.2.2.1 : Int), .int .u64 (x.2.2.2.1 : Int)] 29)).alloc (.cells #[.bool y.2.2.2.2, .int .i64 y.1, .int .i64 y.2.1, .int .u64 (y.2.2.1 : Int), .int .u64 (y.2.2.2.1 : Int)] 29) := ⟨_, rfl⟩
  have HW : Hid (Ok w0 W) := by unfold Hid; rw [hW]; exact (by repeat (first | exact hok | refine Ok.alloc ?_ _ | refine Ok.draws ?_ _ | fail))
  rw [← hW]
  clear hW
  refine (vcomparing_9 y x HX.out.2 HX.out.1 W _ (Ok.refl _)).mono ?_
  rintro e w1 ⟨f, rfl, hT, hb⟩
  rw [← HL.out, ← HR.out] at hT
  obtain ⟨fid, caps, rfl, hen, hf⟩ := hT
  have HF : Hid _ := And.intro hen hf
  have Hw1 : Hid (Ok w0 w1) := HW.out.step hb
  clear hen hf hb HW
  go_wp2_with fail
  refine (vabout_any fid caps w1).mono ?_
  rintro e w2 ⟨rfl, e2⟩
  have E2 : Hid _ := e2
  clear e2
  go_wp2_with fail
  go_ret
  exact ⟨_, rfl, tells_about HF.out.1 HF.out.2 E2.out, by rw [E2.out]; exact Hw1.out.alloc _⟩
theorem vcomparing_any (op : Int) (ho : OpC op) (x y : Int × Int × Nat × Nat × Bool) (hx : RawN x) (hy : RawN y) (w0 w : World) (hok : Ok w0 w) :
    Calls Tryz.prog 11 #[.int .i64 op, nv x, nv y] w (CPost w0 (compN op x y).1 (compN op x y).2) := by
  rcases ho with rfl | rfl | rfl | rfl | rfl | rfl
  · exact vcomparing_8 x y hx hy w0 w hok
  · exact vcomparing_9 x y hx hy w0 w hok
  · exact vcomparing_10 x y hx hy w0 w hok
  · exact vcomparing_11 x y hx hy w0 w hok
  · exact vcomparing_12 x y hx hy w0 w hok
  · exact vcomparing_13 x y hx hy w0 w hok
set_option maxRecDepth 100000 in
set_option maxHeartbeats 4000000 in
theorem vcomparing_nil (op : Int) (ho : ¬ OpC op) (x y : Int × Int × Nat × Nat × Bool) (w0 w : World) (hok : Ok w0 w) :
    Calls Tryz.prog 11 #[.int .i64 op, nv x, nv y] w fun e w' => e = .returned .nilFunc ∧ Ok w0 w' := by
  have HO : Hid (¬ OpC op) := ho
  have k8 : (op == 8) = false := by rw [beq_eq_false_iff_ne]; intro h; exact ho (Or.inl h)
  have k9 : (op == 9) = false := by rw [beq_eq_false_iff_ne]; intro h; exact ho (Or.inr (Or.inl h))
  have k10 : (op == 10) = false := by rw [beq_eq_false_iff_ne]; intro h; exact ho (Or.inr (Or.inr (Or.inl h)))
  have k11 : (op == 11) = false := by rw [beq_eq_false_iff_ne]; intro h; exact ho (Or.inr (Or.inr (Or.inr (Or.inl h))))
  have k12 : (op == 12) = false := by rw [beq_eq_false_iff_ne]; intro h; exact ho (Or.inr (Or.inr (Or.inr (Or.inr (Or.inl h)))))
  have k13 : (op == 13) = false := by rw [beq_eq_false_iff_ne]; intro h; exact ho (Or.inr (Or.inr (Or.inr (Or.inr (Or.inr h)))))
  clear ho
  unfold nv
  go_enter Tryz.func11, Tryz.ntmps11
  go_wp2_with fail
  go_ret
  exact ⟨rfl, (hok.alloc _).alloc _⟩
end
end Go.Proofs.YtbkblijoimmdeaaGreat
