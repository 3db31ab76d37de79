import Derived.Test.YtbkblijoimmdeaaKJb
import Derived.Test.YtbkblijoimmdeaaKNm
import Derived.Test.YtbkblijoimmdeaaKNws
set_option linter.unusedVariables false
set_option linter.unusedSimpArgs false
set_option linter.unnecessarySimpa false
/- Nq -/
namespace Go.Proofs.Ytbkblijoimmdeaa
open Go.RowKit

theorem rows_putC {w0 w1 Z : World} {g : Nat} {p0 p1 : Value} {t : TypeId} (ra : w1.heap[g]? = some (.cells #[p0, p1] t (0, 0))) (h0 : Ok w0 w1) (hg : w0.heap.size ≤ g) (x0 x1 : Value) (hZ : Z = ((w1.setCell ⟨g, 0, none⟩ x0).setCell ⟨g, 1, none⟩ x1)) :
    Hid (Ok w0 Z ∧ Z.heap[g]? = some (.cells #[x0, x1] t (0, 0)) ∧ (∀ (h : Nat) (o : Obj), h ≠ g → w1.heap[h]? = some o → Z.heap[h]? = some o)) := by
  subst hZ
  refine ⟨Ok.set (Ok.set h0 hg _) hg _, row_set2 ra x0 x1, ?_⟩
  intro h o h1 ho
  rw [heap_setCell_other _ _ _ _ h1, heap_setCell_other _ _ _ _ h1]
  exact ho
set_option maxRecDepth 100000 in
set_option maxHeartbeats 4000000 in
theorem widen1_any (xl xh : Int) (xM xR : Nat) (yl yh : Int) (yM yR : Nat) (gt : Nat) (ao : Option Addr) (n cap : Nat) (ts : List Int) (hx : RawN (xl, xh, xM, xR, false)) (hy : RawN (yl, yh, yM, yR, false)) (lx : xl ≤ xh) (ly : yl ≤ yh) (w : World) (hr : w.heap[gt]? = some (.cells #[.slice ao n cap] 25)) (hT : SInts w (.slice ao n cap) ts) :
    Calls Try.prog 54 #[.agg #[.bool false, .int .i64 xl, .int .i64 xh, .int .u64 (xM : Int), .int .u64 (xR : Int)], .agg #[.bool false, .int .i64 yl, .int .i64 yh, .int .u64 (yM : Int), .int .u64 (yR : Int)], .pointer (some ⟨gt, 0, none⟩)] w fun e w' => e = .returned (nv (makeN (widenI xl xh yl yh ts).1 (widenI xl xh yl yh ts).2 (keepC xM xR yM yR).1 (keepC xM xR yM yR).2)) ∧ Ok w w' := by
  have hok : Ok w w := Ok.refl _
  have HU : Hid (RawN (xl, xh, xM, xR, false) ∧ RawN (yl, yh, yM, yR, false)) := ⟨hx, hy⟩
  have HT : Hid (SInts w (.slice ao n cap) ts) := hT
  have rt : Hid _ := hr
  obtain ⟨q, hq⟩ : ∃ q, q = widenI xl xh yl yh ts := ⟨_, rfl⟩
  have IQ : Hid (In64 q.1 ∧ In64 q.2) := by rw [hq]; exact widenI_in hx.1 hx.2.1 hy.1 hy.2.1 lx ly ts
  have HQ : Hid _ := hq
  obtain ⟨K, hK⟩ : ∃ K, K = keepC xM xR yM yR := ⟨_, rfl⟩
  have IK : Hid (U64 K.1 ∧ U64 K.2) := by rw [hK]; exact keep_u64 hx.2.2.1 hx.2.2.2
  have HKK : Hid _ := hK
  rw [← hq, ← hK]
  have sgt := lt_row hr
  clear hx hy lx ly hT hr hq hK
  go_enter Try.func54, Try.ntmps54
  go_wp2_with fail
  obtain ⟨W, hW⟩ : ∃ W, W = (((w).alloc (.cells #[.bool false, .int .i64 xl, .int .i64 xh, .int .u64 (xM : Int), .int .u64 (xR : Int)] 46)).alloc (.cells #[.bool false, .int .i64 yl, .int .i64 yh, .int .u64 (yM : Int), .int .u64 (yR : Int)] 46)).alloc (.cells #[.bool false, .int .i64 0, .int .i64 0, .int .u64 0, .int .u64 0] 46) := ⟨_, rfl⟩
  have ra : Hid (W.heap[w.heap.size]? = some (.cells #[.bool false, .int .i64 xl, .int .i64 xh, .int .u64 (xM : Int), .int .u64 (xR : Int)] 46)) := by unfold Hid; rw [hW]; exact (by repeat (first | (refine heap_at _ _ _ ?hx; case hx => (first | (simp; done) | (simp; omega))) | (refine heap_past _ _ _ ?hy ?_; case hy => (first | (simp; done) | (simp; omega))) | fail))
  have rb : Hid (W.heap[w.heap.size + 1]? = some (.cells #[.bool false, .int .i64 yl, .int .i64 yh, .int .u64 (yM : Int), .int .u64 (yR : Int)] 46)) := by unfold Hid; rw [hW]; exact (by repeat (first | (refine heap_at _ _ _ ?hx; case hx => (first | (simp; done) | (simp; omega))) | (refine heap_past _ _ _ ?hy ?_; case hy => (first | (simp; done) | (simp; omega))) | fail))
  have rz : Hid (W.heap[w.heap.size + 1 + 1]? = some (.cells #[.bool false, .int .i64 0, .int .i64 0, .int .u64 0, .int .u64 0] 46)) := by unfold Hid; rw [hW]; exact (by repeat (first | (refine heap_at _ _ _ ?hx; case hx => (first | (simp; done) | (simp; omega))) | (refine heap_past _ _ _ ?hy ?_; case hy => (first | (simp; done) | (simp; omega))) | fail))
  have HW : Hid (Ok w W) := by unfold Hid; rw [hW]; exact (by repeat (first | exact hok | refine Ok.alloc ?_ _ | refine Ok.draws ?_ _ | fail))
  rw [← hW]
  clear hW
  obtain ⟨gz, egz⟩ : ∃ g, g = w.heap.size + 1 + 1 := ⟨_, rfl⟩
  rw [← egz] at rz ⊢
  obtain ⟨gb, egb⟩ : ∃ g, g = w.heap.size + 1 := ⟨_, rfl⟩
  rw [← egb] at rb ⊢
  obtain ⟨ga, ega⟩ : ∃ g, g = w.heap.size := ⟨_, rfl⟩
  rw [← ega] at ra ⊢
  have lga : w.heap.size ≤ ga := by omega
  have ngagb : ¬ ga = gb := by omega
  have ngagz : ¬ ga = gz := by omega
  have lgb : w.heap.size ≤ gb := by omega
  have ngbga : ¬ gb = ga := by omega
  have ngbgz : ¬ gb = gz := by omega
  have lgz : w.heap.size ≤ gz := by omega
  have ngzga : ¬ gz = ga := by omega
  have ngzgb : ¬ gz = gb := by omega
  clear ega egb egz
  have ngtga : ¬ gt = ga := by omega
  have ngtgb : ¬ gt = gb := by omega
  have ngtgz : ¬ gt = gz := by omega
  have mgtga : ¬ ga = gt := by omega
  have mgtgb : ¬ gb = gt := by omega
  have mgtgz : ¬ gz = gt := by omega
  refine (every_any W _ (Ok.refl _)).mono ?_
  rintro e w1 ⟨rfl, hb⟩
  replace ra : Hid _ := Ok.row' hb ra.out
  replace rb : Hid _ := Ok.row' hb rb.out
  replace rz : Hid _ := Ok.row' hb rz.out
  have Hw1 : Hid (Ok w w1) := HW.out.step hb
  clear hb HW hok
  unfold cv
  obtain ⟨a0, a1, a2, a3, a4, a5, a6, a7, a8, a9⟩ := row5_facts ra.out
  obtain ⟨b0, b1, b2, b3, b4, b5, b6, b7, b8, b9⟩ := row5_facts rb.out
  have s1 := lt_row ra.out
  have s2 := lt_row rb.out
  have s3 := lt_row rz.out
  have s4 := Hw1.out.le
  have vga1 : ¬ w1.heap.size = ga := by omega
  have vgb1 : ¬ w1.heap.size = gb := by omega
  have vgz1 : ¬ w1.heap.size = gz := by omega
  have vgt1 : ¬ w1.heap.size = gt := by omega
  have vga2 : ¬ ga = w1.heap.size := by omega
  have vgb2 : ¬ gb = w1.heap.size := by omega
  have vgz2 : ¬ gz = w1.heap.size := by omega
  have vgt2 : ¬ gt = w1.heap.size := by omega
  go_wp2_with fail
  obtain ⟨Y0, hY0⟩ : ∃ W, W = w1.alloc (.cells #[.int .u64 1, .int .u64 0] 44) := ⟨_, rfl⟩
  have OY : Ok w1 Y0 := by rw [hY0]; exact (Ok.refl _).alloc _
  have rc : Hid (Y0.heap[w1.heap.size]? = some (.cells #[.int .u64 1, .int .u64 0] 44)) := by unfold Hid; rw [hY0]; exact heap_new0 _ _
  rw [← hY0]
  have HY0 : Hid (Ok w Y0) := Hw1.out.step OY
  replace ra : Hid _ := Ok.row' OY ra.out
  replace rb : Hid _ := Ok.row' OY rb.out
  replace rz : Hid _ := Ok.row' OY rz.out
  obtain ⟨gc, egc⟩ : ∃ g, g = w1.heap.size := ⟨_, rfl⟩
  rw [← egc] at rc vga1 vgb1 vgz1 vgt1 vga2 vgb2 vgz2 vgt2 s4 ⊢
  clear hY0 OY egc s1 s2 s3 Hw1 a0 b0 a1 b1 a2 b2 a3 b3 a4 b4 a5 b5 a6 b6 a7 b7 a8 b8 a9 b9
  refine (pleq_any yM yR xM xR HU.out.2.2.2.1 HU.out.2.2.2.2 HU.out.1.2.2.1 HU.out.1.2.2.2 Y0 _ (Ok.refl _)).mono ?_
  rintro e w2 ⟨rfl, hb⟩
  replace ra : Hid _ := Ok.row' hb ra.out
  replace rb : Hid _ := Ok.row' hb rb.out
  replace rz : Hid _ := Ok.row' hb rz.out
  replace rc : Hid _ := Ok.row' hb rc.out
  have Hw2 : Hid (Ok w w2) := HY0.out.step hb
  clear hb HY0
  obtain ⟨a0, a1, a2, a3, a4, a5, a6, a7, a8, a9⟩ := row5_facts ra.out
  obtain ⟨b0, b1, b2, b3, b4, b5, b6, b7, b8, b9⟩ := row5_facts rb.out
  obtain ⟨k0, k1, k2, k3, k4, k5, k6, k7, k8, k9⟩ := row5_facts rz.out
  obtain ⟨c0, c1, c2, c3⟩ := row_facts rc.out
  cases hL : leqC yM yR xM xR
  · have HK1 : Hid (K.1 = 1) := by unfold Hid; rw [HKK.out]; unfold keepC; rw [if_neg (by rw [hL]; simp)]
    have HK2 : Hid (K.2 = 0) := by unfold Hid; rw [HKK.out]; unfold keepC; rw [if_neg (by rw [hL]; simp)]
    go_wp2_with fail
    clear a0 b0 k0 a1 b1 k1 a2 b2 k2 a3 b3 k3 a4 b4 k4 a5 b5 k5 a6 b6 k6 a7 b7 k7 a8 b8 k8 a9 b9 k9 c0 c1 c2 c3
    have HMK : Hid (makeN q.1 q.2 1 0 = makeN q.1 q.2 K.1 K.2) := by unfold Hid; rw [HK1.out, HK2.out]
    have rt2 : Hid _ := Ok.row' Hw2.out rt.out
    have HTz : Hid (SInts w2 (.slice ao n cap) ts) := SInts.ok HT.out Hw2.out
    obtain ⟨a0, a1, a2, a3, a4, a5, a6, a7, a8, a9⟩ := row5_facts ra.out
    obtain ⟨b0, b1, b2, b3, b4, b5, b6, b7, b8, b9⟩ := row5_facts rb.out
    obtain ⟨k0, k1, k2, k3, k4, k5, k6, k7, k8, k9⟩ := row5_facts rz.out
    obtain ⟨c0, c1, c2, c3⟩ := row_facts rc.out
    have t0 := row1_cell rt2.out
    have za := lt_row ra.out
    have zb := lt_row rb.out
    have zc := lt_row rc.out
    have zt := lt_row rt2.out
    have bz : Ok w2 w2 := Ok.refl _
    go_region_held3 (fun w' => w'.cell? ⟨ga, 1, none⟩ = some (.int .i64 xl) ∧ w'.cell? ⟨ga, 2, none⟩ = some (.int .i64 xh) ∧ w'.cell? ⟨gb, 1, none⟩ = some (.int .i64 yl) ∧ w'.cell? ⟨gb, 2, none⟩ = some (.int .i64 yh) ∧ w'.cell? ⟨gc, 0, none⟩ = some (.int .u64 (1 : Int)) ∧ w'.cell? ⟨gc, 1, none⟩ = some (.int .u64 (0 : Int)) ∧ w'.cell? ⟨gt, 0, none⟩ = some (.slice ao n cap)) (go_keep)
      (first
      | (go_at_call 55; refine (pwiden_any _ _ _ _ (.slice ao n cap) ts w2 _ (by repeat (first | assumption | refine Ok.alloc ?_ _ | refine Below.drew ?_)) (by first | exact HTz.out | exact SInts.ok HTz.out (by assumption) | exact SInts.ok HTz.out (Below.drew (Ok.refl _)) | exact SInts.ok HTz.out (Below.drew (by assumption)))).mono ?_; rintro e w' ⟨rfl, hb⟩; rw [← HQ.out]; have q0 := Ok.cell hb za a1; have q1 := Ok.cell hb za a2; have q2 := Ok.cell hb zb b1; have q3 := Ok.cell hb zb b2; have q4 := Ok.cell hb zc c0; have q5 := Ok.cell hb zc c1; have q6 := Ok.cell hb zt t0; obtain ⟨k0, k1, k2, k3, k4, k5, k6, k7, k8, k9⟩ := row5_facts (Ok.row' hb rz.out))
      | (go_at_call 35; refine (nmake_any _ _ 1 0 IQ.out.1 IQ.out.2 (by rw [← HK1.out]; exact IK.out.1) (by rw [← HK2.out]; exact IK.out.2) w2 _ (by repeat (first | assumption | refine Ok.alloc ?_ _ | refine Below.drew ?_))).mono ?_; rintro e w' ⟨rfl, hb⟩; rw [HMK.out]; unfold nv; have q0 := Ok.cell hb za a1; have q1 := Ok.cell hb za a2; have q2 := Ok.cell hb zb b1; have q3 := Ok.cell hb zb b2; have q4 := Ok.cell hb zc c0; have q5 := Ok.cell hb zc c1; have q6 := Ok.cell hb zt t0; obtain ⟨k0, k1, k2, k3, k4, k5, k6, k7, k8, k9⟩ := row5_facts (Ok.row' hb rz.out))
      | fail)
    go_wp2_with fail
    have hr : Hid _ := Ok.row' hb rz.out
    (try simp only [Exit.inBlock, Exit.then]); refine bodyPost_ret (results_cell_row rfl _ _ (gz) 46 #[_, _, _, _, _] (0, 0) _ rfl (row_set5 hr.out _ _ _ _ _) Try.underlying46 rfl infoN) rfl ?_
    exact ⟨rfl, Ok.set (Ok.set (Ok.set (Ok.set (Ok.set (Hw2.out.step hb) (show w.heap.size ≤ gz by omega) _) (show w.heap.size ≤ gz by omega) _) (show w.heap.size ≤ gz by omega) _) (show w.heap.size ≤ gz by omega) _) (show w.heap.size ≤ gz by omega) _⟩
  · have HK1 : Hid (K.1 = xM) := by unfold Hid; rw [HKK.out]; unfold keepC; rw [if_pos hL]
    have HK2 : Hid (K.2 = xR) := by unfold Hid; rw [HKK.out]; unfold keepC; rw [if_pos hL]
    go_wp2_with fail
    obtain ⟨Z, hZ⟩ : ∃ Z, Z = ((w2.setCell ⟨gc, 0, none⟩ (.int .u64 (xM : Int))).setCell ⟨gc, 1, none⟩ (.int .u64 (xR : Int))) := ⟨_, rfl⟩
    obtain ⟨HZ, rcz, keep⟩ := (rows_putC rc.out Hw2.out (by omega) _ _ hZ).out
    replace HZ : Hid (Ok w Z) := HZ
    rw [← hZ]
    replace ra : Hid _ := keep _ _ (by omega) ra.out
    replace rb : Hid _ := keep _ _ (by omega) rb.out
    replace rz : Hid _ := keep _ _ (by omega) rz.out
    replace rc : Hid _ := rcz
    clear keep rcz hZ
    clear a0 b0 k0 a1 b1 k1 a2 b2 k2 a3 b3 k3 a4 b4 k4 a5 b5 k5 a6 b6 k6 a7 b7 k7 a8 b8 k8 a9 b9 k9 c0 c1 c2 c3
    have HMK : Hid (makeN q.1 q.2 xM xR = makeN q.1 q.2 K.1 K.2) := by unfold Hid; rw [HK1.out, HK2.out]
    have rt2 : Hid _ := Ok.row' HZ.out rt.out
    have HTz : Hid (SInts Z (.slice ao n cap) ts) := SInts.ok HT.out HZ.out
    obtain ⟨a0, a1, a2, a3, a4, a5, a6, a7, a8, a9⟩ := row5_facts ra.out
    obtain ⟨b0, b1, b2, b3, b4, b5, b6, b7, b8, b9⟩ := row5_facts rb.out
    obtain ⟨k0, k1, k2, k3, k4, k5, k6, k7, k8, k9⟩ := row5_facts rz.out
    obtain ⟨c0, c1, c2, c3⟩ := row_facts rc.out
    have t0 := row1_cell rt2.out
    have za := lt_row ra.out
    have zb := lt_row rb.out
    have zc := lt_row rc.out
    have zt := lt_row rt2.out
    have bz : Ok Z Z := Ok.refl _
    go_region_held3 (fun w' => w'.cell? ⟨ga, 1, none⟩ = some (.int .i64 xl) ∧ w'.cell? ⟨ga, 2, none⟩ = some (.int .i64 xh) ∧ w'.cell? ⟨gb, 1, none⟩ = some (.int .i64 yl) ∧ w'.cell? ⟨gb, 2, none⟩ = some (.int .i64 yh) ∧ w'.cell? ⟨gc, 0, none⟩ = some (.int .u64 (xM : Int)) ∧ w'.cell? ⟨gc, 1, none⟩ = some (.int .u64 (xR : Int)) ∧ w'.cell? ⟨gt, 0, none⟩ = some (.slice ao n cap)) (go_keep)
      (first
      | (go_at_call 55; refine (pwiden_any _ _ _ _ (.slice ao n cap) ts Z _ (by repeat (first | assumption | refine Ok.alloc ?_ _ | refine Below.drew ?_)) (by first | exact HTz.out | exact SInts.ok HTz.out (by assumption) | exact SInts.ok HTz.out (Below.drew (Ok.refl _)) | exact SInts.ok HTz.out (Below.drew (by assumption)))).mono ?_; rintro e w' ⟨rfl, hb⟩; rw [← HQ.out]; have q0 := Ok.cell hb za a1; have q1 := Ok.cell hb za a2; have q2 := Ok.cell hb zb b1; have q3 := Ok.cell hb zb b2; have q4 := Ok.cell hb zc c0; have q5 := Ok.cell hb zc c1; have q6 := Ok.cell hb zt t0; obtain ⟨k0, k1, k2, k3, k4, k5, k6, k7, k8, k9⟩ := row5_facts (Ok.row' hb rz.out))
      | (go_at_call 35; refine (nmake_any _ _ xM xR IQ.out.1 IQ.out.2 (by rw [← HK1.out]; exact IK.out.1) (by rw [← HK2.out]; exact IK.out.2) Z _ (by repeat (first | assumption | refine Ok.alloc ?_ _ | refine Below.drew ?_))).mono ?_; rintro e w' ⟨rfl, hb⟩; rw [HMK.out]; unfold nv; have q0 := Ok.cell hb za a1; have q1 := Ok.cell hb za a2; have q2 := Ok.cell hb zb b1; have q3 := Ok.cell hb zb b2; have q4 := Ok.cell hb zc c0; have q5 := Ok.cell hb zc c1; have q6 := Ok.cell hb zt t0; obtain ⟨k0, k1, k2, k3, k4, k5, k6, k7, k8, k9⟩ := row5_facts (Ok.row' hb rz.out))
      | fail)
    go_wp2_with fail
    have hr : Hid _ := Ok.row' hb rz.out
    (try simp only [Exit.inBlock, Exit.then]); refine bodyPost_ret (results_cell_row rfl _ _ (gz) 46 #[_, _, _, _, _] (0, 0) _ rfl (row_set5 hr.out _ _ _ _ _) Try.underlying46 rfl infoN) rfl ?_
    exact ⟨rfl, Ok.set (Ok.set (Ok.set (Ok.set (Ok.set (HZ.out.step hb) (show w.heap.size ≤ gz by omega) _) (show w.heap.size ≤ gz by omega) _) (show w.heap.size ≤ gz by omega) _) (show w.heap.size ≤ gz by omega) _) (show w.heap.size ≤ gz by omega) _⟩
set_option maxRecDepth 100000 in
set_option maxHeartbeats 4000000 in
theorem ntog_widen (a b : Int × Int × Nat × Nat × Bool) (gt : Nat) (ao : Option Addr) (n cap : Nat) (ts : List Int) (ha : RawN a) (hb : RawN b) (w : World) (hr : w.heap[gt]? = some (.cells #[.slice ao n cap] 25)) (hT : SInts w (.slice ao n cap) ts) :
    Calls Try.prog 50 #[nv a, nv b, .func (.func 54) #[] #[.pointer (some ⟨gt, 0, none⟩)]] w fun e w' => e = .returned (nv (widenN a b ts)) ∧ Ok w w' := by
  have hok : Ok w w := Ok.refl w
  have hle := hok.le
  have HU : Hid _ := And.intro ha hb
  clear ha hb
  obtain ⟨x, hx⟩ : ∃ x, x = normN a := ⟨_, rfl⟩
  obtain ⟨y, hy⟩ : ∃ x, x = normN b := ⟨_, rfl⟩
  have HS : Hid (widenN a b ts = widRaw x y ts) := by unfold Hid; rw [hx, hy]; rfl
  have RX : Hid (RawN x ∧ RawN y) := by rw [hx, hy]; exact ⟨normN_raw HU.out.1, normN_raw HU.out.2⟩
  have NX : Hid (NormN x ∧ NormN y) := by rw [hx, hy]; exact ⟨normN_norm HU.out.1, normN_norm HU.out.2⟩
  have HX : Hid _ := hx
  have HY : Hid _ := hy
  clear hx hy
  have HT : Hid (SInts w (.slice ao n cap) ts) := hT
  have HR : Hid _ := hr
  clear hr hT
  unfold nv
  go_enter Try.func50, Try.ntmps50
  go_wp2_with fail
  obtain ⟨W, hW⟩ : ∃ W, W = (((w).alloc (.cells #[.bool a.2.2.2.2, .int .i64 a.1, .int .i64 a.2.1, .int .u64 (a.2.2.1 : Int), .int .u64 (a.2.2.2.1 : Int)] 46)).alloc (.cells #[.bool b.2.2.2.2, .int .i64 b.1, .int .i64 b.2.1, .int .u64 (b.2.2.1 : Int), .int .u64 (b.2.2.2.1 : Int)] 46)).alloc (.cells #[.bool false, .int .i64 0, .int .i64 0, .int .u64 0, .int .u64 0] 46) := ⟨_, rfl⟩
  have ra : Hid (W.heap[w.heap.size]? = some (.cells #[.bool a.2.2.2.2, .int .i64 a.1, .int .i64 a.2.1, .int .u64 (a.2.2.1 : Int), .int .u64 (a.2.2.2.1 : Int)] 46)) := by unfold Hid; rw [hW]; exact (by repeat (first | (refine heap_at _ _ _ ?hx; case hx => (first | (simp; done) | (simp; omega))) | (refine heap_past _ _ _ ?hy ?_; case hy => (first | (simp; done) | (simp; omega))) | fail))
  have rb : Hid (W.heap[w.heap.size + 1]? = some (.cells #[.bool b.2.2.2.2, .int .i64 b.1, .int .i64 b.2.1, .int .u64 (b.2.2.1 : Int), .int .u64 (b.2.2.2.1 : Int)] 46)) := by unfold Hid; rw [hW]; exact (by repeat (first | (refine heap_at _ _ _ ?hx; case hx => (first | (simp; done) | (simp; omega))) | (refine heap_past _ _ _ ?hy ?_; case hy => (first | (simp; done) | (simp; omega))) | fail))
  have rz : Hid (W.heap[w.heap.size + 1 + 1]? = some (.cells #[.bool false, .int .i64 0, .int .i64 0, .int .u64 0, .int .u64 0] 46)) := by unfold Hid; rw [hW]; exact (by repeat (first | (refine heap_at _ _ _ ?hx; case hx => (first | (simp; done) | (simp; omega))) | (refine heap_past _ _ _ ?hy ?_; case hy => (first | (simp; done) | (simp; omega))) | fail))
  have HW : Hid (Ok w W) := by unfold Hid; rw [hW]; exact (by repeat (first | exact hok | refine Ok.alloc ?_ _ | refine Ok.draws ?_ _ | fail))
  rw [← hW]
  clear hW
  obtain ⟨gz, egz⟩ : ∃ g, g = w.heap.size + 1 + 1 := ⟨_, rfl⟩
  rw [← egz] at rz ⊢
  obtain ⟨gb, egb⟩ : ∃ g, g = w.heap.size + 1 := ⟨_, rfl⟩
  rw [← egb] at rb ⊢
  obtain ⟨ga, ega⟩ : ∃ g, g = w.heap.size := ⟨_, rfl⟩
  rw [← ega] at ra ⊢
  have lga : w.heap.size ≤ ga := by omega
  have ngagb : ¬ ga = gb := by omega
  have ngagz : ¬ ga = gz := by omega
  have lgb : w.heap.size ≤ gb := by omega
  have ngbga : ¬ gb = ga := by omega
  have ngbgz : ¬ gb = gz := by omega
  have lgz : w.heap.size ≤ gz := by omega
  have ngzga : ¬ gz = ga := by omega
  have ngzgb : ¬ gz = gb := by omega
  clear ega egb egz
  apply wp_cutN (fun w1 => Hid (Ok w w1 ∧ w1.heap[ga]? = some (.cells #[.bool x.2.2.2.2, .int .i64 x.1, .int .i64 x.2.1, .int .u64 (x.2.2.1 : Int), .int .u64 (x.2.2.2.1 : Int)] 46) ∧ w1.heap[gb]? = some (.cells #[.bool y.2.2.2.2, .int .i64 y.1, .int .i64 y.2.1, .int .u64 (y.2.2.1 : Int), .int .u64 (y.2.2.2.1 : Int)] 46) ∧ (∀ (h : Nat) (o : Obj), h ≠ ga → h ≠ gb → W.heap[h]? = some o → w1.heap[h]? = some o)))
  case h1 =>
    obtain ⟨a0, a1, a2, a3, a4, a5, a6, a7, a8, a9⟩ := row5_facts ra.out
    obtain ⟨b0, b1, b2, b3, b4, b5, b6, b7, b8, b9⟩ := row5_facts rb.out
    have bz : Ok W W := Ok.refl _
    go_region_with (go_at_call 43; refine (nnorm_any _ (by first | exact HU.out.1 | exact HU.out.2) W _ (by first | assumption | exact Below.drew (by assumption))).mono ?_; rintro e w1 ⟨rfl, hb⟩; (first | rw [← HX.out] | rw [← HY.out]); unfold nv; obtain ⟨a0, a1, a2, a3, a4, a5, a6, a7, a8, a9⟩ := row5_facts (Ok.row' hb ra.out); obtain ⟨b0, b1, b2, b3, b4, b5, b6, b7, b8, b9⟩ := row5_facts (Ok.row' hb rb.out))
    all_goals exact ⟨rfl, rows_put2 (by omega) ra.out rb.out hb HW.out (by omega) (by omega) _ _ _ _ _ _ _ _ _ _⟩
  case h2 =>
    rintro Z H
    obtain ⟨HZ, raz, rbz, keep⟩ := H.out
    replace HZ : Hid (Ok w Z) := HZ
    replace raz : Hid _ := raz
    replace rbz : Hid _ := rbz
    replace rz : Hid _ := keep _ _ (by omega) (by omega) rz.out
    clear H ra rb keep
    have OZ : Hid (Ok w Z) := HZ
    have rtz : Hid _ := Ok.row' OZ.out HR.out
    obtain ⟨a0, a1, a2, a3, a4, a5, a6, a7, a8, a9⟩ := row5_facts raz.out
    obtain ⟨b0, b1, b2, b3, b4, b5, b6, b7, b8, b9⟩ := row5_facts rbz.out
    obtain ⟨k0, k1, k2, k3, k4, k5, k6, k7, k8, k9⟩ := row5_facts rz.out
    cases hxb : x.2.2.2.2
    · rw [hxb] at a0
      cases hyb : y.2.2.2.2
      · rw [hyb] at b0
        have HA : Hid (widRaw x y ts = makeN (widenI x.1 x.2.1 y.1 y.2.1 ts).1 (widenI x.1 x.2.1 y.1 y.2.1 ts).2 (keepC x.2.2.1 x.2.2.2.1 y.2.2.1 y.2.2.2.1).1 (keepC x.2.2.1 x.2.2.2.1 y.2.2.1 y.2.2.2.1).2) := by unfold Hid widRaw; rw [if_neg (by rw [hxb]; simp), if_neg (by rw [hyb]; simp)]
        have LX : Hid (x.1 ≤ x.2.1 ∧ y.1 ≤ y.2.1) := ⟨norm_some NX.out.1 hxb, norm_some NX.out.2 hyb⟩
        go_wp2_with fail
        refine (widen1_any x.1 x.2.1 x.2.2.1 x.2.2.2.1 y.1 y.2.1 y.2.2.1 y.2.2.2.1 gt ao n cap ts RX.out.1 RX.out.2 LX.out.1 LX.out.2 Z (rtz.out) (SInts.ok HT.out OZ.out)).mono ?_
        rintro e z1 ⟨rfl, hb⟩
        rw [← HA.out]
        have hr : Hid _ := Ok.row' hb rz.out
        obtain ⟨k0, k1, k2, k3, k4, k5, k6, k7, k8, k9⟩ := row5_facts hr.out
        unfold nv
        go_wp2_with fail
        (try simp only [Exit.inBlock, Exit.then]); refine bodyPost_ret (results_cell_row rfl _ _ (gz) 46 #[_, _, _, _, _] (0, 0) _ rfl (row_set5 hr.out _ _ _ _ _) Try.underlying46 rfl infoN) rfl ?_
        exact ⟨(by rw [HS.out]), Ok.set (Ok.set (Ok.set (Ok.set (Ok.set (HZ.out.step hb) (show w.heap.size ≤ gz by omega) _) (show w.heap.size ≤ gz by omega) _) (show w.heap.size ≤ gz by omega) _) (show w.heap.size ≤ gz by omega) _) (show w.heap.size ≤ gz by omega) _⟩
      · rw [hyb] at b0
        have HA : Hid (widRaw x y ts = x) := by unfold Hid widRaw; rw [if_neg (by rw [hxb]; simp), if_pos hyb]
        have hr : Hid _ := rz
        go_wp2_with fail
        have HB : Hid _ := hxb
        (try simp only [Exit.inBlock, Exit.then]); refine bodyPost_ret (results_cell_row rfl _ _ (gz) 46 #[_, _, _, _, _] (0, 0) _ rfl (row_set5 hr.out _ _ _ _ _) Try.underlying46 rfl infoN) rfl ?_
        exact ⟨(by rw [HS.out, HA.out, HB.out]), Ok.set (Ok.set (Ok.set (Ok.set (Ok.set (HZ.out) (show w.heap.size ≤ gz by omega) _) (show w.heap.size ≤ gz by omega) _) (show w.heap.size ≤ gz by omega) _) (show w.heap.size ≤ gz by omega) _) (show w.heap.size ≤ gz by omega) _⟩
    · rw [hxb] at a0
      have HA : Hid (widRaw x y ts = y) := by unfold Hid widRaw; rw [if_pos hxb]
      have hr : Hid _ := rz
      go_wp2_with fail
      (try simp only [Exit.inBlock, Exit.then]); refine bodyPost_ret (results_cell_row rfl _ _ (gz) 46 #[_, _, _, _, _] (0, 0) _ rfl (row_set5 hr.out _ _ _ _ _) Try.underlying46 rfl infoN) rfl ?_
      exact ⟨(by rw [HS.out, HA.out]), Ok.set (Ok.set (Ok.set (Ok.set (Ok.set (HZ.out) (show w.heap.size ≤ gz by omega) _) (show w.heap.size ≤ gz by omega) _) (show w.heap.size ≤ gz by omega) _) (show w.heap.size ≤ gz by omega) _) (show w.heap.size ≤ gz by omega) _⟩
set_option maxRecDepth 100000 in
set_option maxHeartbeats 4000000 in
theorem nwiden_any (a b : Int × Int × Nat × Nat × Bool) (v : Value) (ts : List Int) (ha : RawN a) (hb : RawN b) (w0 w : World) (hok : Ok w0 w) (hT : SInts w v ts) :
    Calls Try.prog 32 #[nv a, nv b, v] w fun e w' => e = .returned (nv (widenN a b ts)) ∧ Ok w0 w' := by
  have hle := hok.le
  have HU : Hid _ := And.intro ha hb
  obtain ⟨ao, n, cap, rfl⟩ := SInts.form hT
  have HT : Hid (SInts w (.slice ao n cap) ts) := hT
  clear ha hb hT
  unfold nv
  go_enter Try.func32, Try.ntmps32
  go_wp2_with fail
  obtain ⟨W, hW⟩ : ∃ W, W = ((((w).alloc (.cells #[.bool a.2.2.2.2, .int .i64 a.1, .int .i64 a.2.1, .int .u64 (a.2.2.1 : Int), .int .u64 (a.2.2.2.1 : Int)] 46)).alloc (.cells #[.bool b.2.2.2.2, .int .i64 b.1, .int .i64 b.2.1, .int .u64 (b.2.2.1 : Int), .int .u64 (b.2.2.2.1 : Int)] 46)).alloc (.cells #[.slice ao n cap] 25)).alloc (.cells #[.bool false, .int .i64 0, .int .i64 0, .int .u64 0, .int .u64 0] 46) := ⟨_, rfl⟩
  have rt : Hid (W.heap[w.heap.size + 1 + 1]? = some (.cells #[.slice ao n cap] 25)) := by unfold Hid; rw [hW]; exact (by repeat (first | (refine heap_at _ _ _ ?hx; case hx => (first | (simp; done) | (simp; omega))) | (refine heap_past _ _ _ ?hy ?_; case hy => (first | (simp; done) | (simp; omega))) | fail))
  have rz : Hid (W.heap[w.heap.size + 1 + 1 + 1]? = some (.cells #[.bool false, .int .i64 0, .int .i64 0, .int .u64 0, .int .u64 0] 46)) := by unfold Hid; rw [hW]; exact (by repeat (first | (refine heap_at _ _ _ ?hx; case hx => (first | (simp; done) | (simp; omega))) | (refine heap_past _ _ _ ?hy ?_; case hy => (first | (simp; done) | (simp; omega))) | fail))
  have HW : Hid (Ok w0 W) := by unfold Hid; rw [hW]; exact (by repeat (first | exact hok | refine Ok.alloc ?_ _ | refine Ok.draws ?_ _ | fail))
  rw [← hW]
  have OW : Ok w W := by rw [hW]; exact ((((Ok.refl w).alloc _).alloc _).alloc _).alloc _
  clear hW
  obtain ⟨gz, ez⟩ : ∃ g, g = w.heap.size + 1 + 1 + 1 := ⟨_, rfl⟩
  rw [← ez] at rz ⊢
  obtain ⟨gt, et⟩ : ∃ g, g = w.heap.size + 1 + 1 := ⟨_, rfl⟩
  rw [← et] at rt ⊢
  have lgz : w0.heap.size ≤ gz := by omega
  clear ez et
  refine (ntog_widen a b gt ao n cap ts HU.out.1 HU.out.2 W rt.out (SInts.ok HT.out OW)).mono ?_
  rintro e z1 ⟨rfl, hb⟩
  have hr : Hid _ := Ok.row' hb rz.out
  obtain ⟨k0, k1, k2, k3, k4, k5, k6, k7, k8, k9⟩ := row5_facts hr.out
  unfold nv
  go_wp2_with fail
  (try simp only [Exit.inBlock, Exit.then]); refine bodyPost_ret (results_cell_row rfl _ _ (gz) 46 #[_, _, _, _, _] (0, 0) _ rfl (row_set5 hr.out _ _ _ _ _) Try.underlying46 rfl infoN) rfl ?_
  exact ⟨rfl, Ok.set (Ok.set (Ok.set (Ok.set (Ok.set (HW.out.step hb) (show w0.heap.size ≤ gz by omega) _) (show w0.heap.size ≤ gz by omega) _) (show w0.heap.size ≤ gz by omega) _) (show w0.heap.size ≤ gz by omega) _) (show w0.heap.size ≤ gz by omega) _⟩
end Go.Proofs.Ytbkblijoimmdeaa
