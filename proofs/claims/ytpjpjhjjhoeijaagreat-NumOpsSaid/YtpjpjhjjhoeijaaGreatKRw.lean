import Derived.Deep.Cut
import Derived.Deep.CutRange
import Derived.Test.YtpjpjhjjhoeijaaGreatKRz
import Derived.Test.YtpjpjhjjhoeijaaGreatKNq
import Derived.Test.YtpjpjhjjhoeijaaGreatKIwid
set_option linter.unusedVariables false
set_option linter.unusedSimpArgs false
set_option linter.unnecessarySimpa false
/- The document's Widen. -/
namespace Go.Proofs.YtpjpjhjjhoeijaaGreat
open Go.RowKit

set_option maxRecDepth 100000 in
set_option maxHeartbeats 4000000 in
theorem rnwiden1 (a b : Int × Int × Nat × Nat × Bool) (ao : Option Addr) (n cap : Nat) (ts : List Int) (ha : RawN a) (hb : RawN b) (w : World) (hT : SInts w (.slice ao n cap) ts) :
    Calls Tryz.prog 10 #[nv a, nv b, .slice ao n cap] w fun e w' => e = .returned (nv (widenN a b ts)) ∧ Ok w w' := by
  have hok : Ok w w := Ok.refl w
  have hle := hok.le
  have HU : Hid (RawN a ∧ RawN b) := ⟨ha, hb⟩
  have HT : Hid (SInts w (.slice ao n cap) ts) := hT
  clear ha hb hT
  obtain ⟨x, hx⟩ : ∃ x, x = normN a := ⟨_, rfl⟩
  obtain ⟨y, hy⟩ : ∃ x, x = normN b := ⟨_, rfl⟩
  have RX : Hid (RawN x ∧ RawN y) := by rw [hx, hy]; exact ⟨normN_raw HU.out.1, normN_raw HU.out.2⟩
  have NX : Hid (NormN x ∧ NormN y) := by rw [hx, hy]; exact ⟨normN_norm HU.out.1, normN_norm HU.out.2⟩
  have HX : Hid _ := hx
  have HY : Hid _ := hy
  obtain ⟨ans, hans⟩ : ∃ t, t = widenN a b ts := ⟨_, rfl⟩
  rw [← hans]
  have HS : Hid (ans = widRaw x y ts) := by unfold Hid; rw [hans, hx, hy]; rfl
  clear hx hy hans
  unfold nv
  go_enter Tryz.func10, Tryz.ntmps10
  go_wp2_with fail
  obtain ⟨W, hW⟩ : ∃ W, W = (((w).alloc (.cells #[.bool a.2.2.2.2, .int .i64 a.1, .int .i64 a.2.1, .int .u64 (a.2.2.1 : Int), .int .u64 (a.2.2.2.1 : Int)] 29)).alloc (.cells #[.bool b.2.2.2.2, .int .i64 b.1, .int .i64 b.2.1, .int .u64 (b.2.2.1 : Int), .int .u64 (b.2.2.2.1 : Int)] 29)).alloc (.cells #[.bool false, .int .i64 0, .int .i64 0, .int .u64 0, .int .u64 0] 29) := ⟨_, rfl⟩
  have ra : Hid (W.heap[w.heap.size]? = some (.cells #[.bool a.2.2.2.2, .int .i64 a.1, .int .i64 a.2.1, .int .u64 (a.2.2.1 : Int), .int .u64 (a.2.2.2.1 : Int)] 29)) := by unfold Hid; rw [hW]; exact (by repeat (first | (refine heap_at _ _ _ ?hx; case hx => (first | (simp; done) | (simp; omega))) | (refine heap_past _ _ _ ?hy ?_; case hy => (first | (simp; done) | (simp; omega))) | fail))
  have rb : Hid (W.heap[w.heap.size + 1]? = some (.cells #[.bool b.2.2.2.2, .int .i64 b.1, .int .i64 b.2.1, .int .u64 (b.2.2.1 : Int), .int .u64 (b.2.2.2.1 : Int)] 29)) := by unfold Hid; rw [hW]; exact (by repeat (first | (refine heap_at _ _ _ ?hx; case hx => (first | (simp; done) | (simp; omega))) | (refine heap_past _ _ _ ?hy ?_; case hy => (first | (simp; done) | (simp; omega))) | fail))
  have rz : Hid (W.heap[w.heap.size + 1 + 1]? = some (.cells #[.bool false, .int .i64 0, .int .i64 0, .int .u64 0, .int .u64 0] 29)) := by unfold Hid; rw [hW]; exact (by repeat (first | (refine heap_at _ _ _ ?hx; case hx => (first | (simp; done) | (simp; omega))) | (refine heap_past _ _ _ ?hy ?_; case hy => (first | (simp; done) | (simp; omega))) | fail))
  have HW : Hid (Ok w W) := by unfold Hid; rw [hW]; exact (by repeat (first | exact hok | refine Ok.alloc ?_ _ | refine Ok.draws ?_ _ | fail))
  rw [← hW]
  clear hW
  obtain ⟨gz, egz⟩ : ∃ g, g = w.heap.size + 1 + 1 := ⟨_, rfl⟩
  rw [← egz] at rz ⊢
  obtain ⟨gb, egb⟩ : ∃ g, g = w.heap.size + 1 := ⟨_, rfl⟩
  rw [← egb] at rb ⊢
  obtain ⟨ga, ega⟩ : ∃ g, g = w.heap.size := ⟨_, rfl⟩
  rw [← ega] at ra ⊢
  have lga : w.heap.size ≤ ga := by omega
  have ngagb : ¬ ga = gb := by omega
  have ngagz : ¬ ga = gz := by omega
  have lgb : w.heap.size ≤ gb := by omega
  have ngbga : ¬ gb = ga := by omega
  have ngbgz : ¬ gb = gz := by omega
  have lgz : w.heap.size ≤ gz := by omega
  have ngzga : ¬ gz = ga := by omega
  have ngzgb : ¬ gz = gb := by omega
  clear ega egb egz
  apply wp_cutN (fun w1 => Hid (Ok w w1 ∧ w1.heap[ga]? = some (.cells #[.bool x.2.2.2.2, .int .i64 x.1, .int .i64 x.2.1, .int .u64 (x.2.2.1 : Int), .int .u64 (x.2.2.2.1 : Int)] 29) ∧ w1.heap[gb]? = some (.cells #[.bool y.2.2.2.2, .int .i64 y.1, .int .i64 y.2.1, .int .u64 (y.2.2.1 : Int), .int .u64 (y.2.2.2.1 : Int)] 29) ∧ (∀ (h : Nat) (o : Obj), h ≠ ga → h ≠ gb → W.heap[h]? = some o → w1.heap[h]? = some o)))
  case h1 =>
    obtain ⟨a0, a1, a2, a3, a4, a5, a6, a7, a8, a9⟩ := row5_facts ra.out
    obtain ⟨b0, b1, b2, b3, b4, b5, b6, b7, b8, b9⟩ := row5_facts rb.out
    have bz : Ok W W := Ok.refl _
    go_region_with (go_at_call 28; refine (rnorm_any _ (by first | exact HU.out.1 | exact HU.out.2) W _ (by first | assumption | exact Below.drew (by assumption))).mono ?_; rintro e w1 ⟨rfl, hb⟩; (first | rw [← HX.out] | rw [← HY.out]); unfold nv; obtain ⟨a0, a1, a2, a3, a4, a5, a6, a7, a8, a9⟩ := row5_facts (Ok.row' hb ra.out); obtain ⟨b0, b1, b2, b3, b4, b5, b6, b7, b8, b9⟩ := row5_facts (Ok.row' hb rb.out))
    all_goals exact ⟨rfl, rows_put2 (by omega) ra.out rb.out hb HW.out (by omega) (by omega) _ _ _ _ _ _ _ _ _ _⟩
  rintro Z H
  obtain ⟨HZ, raz, rbz, keep⟩ := H.out
  replace HZ : Hid (Ok w Z) := HZ
  replace raz : Hid _ := raz
  replace rbz : Hid _ := rbz
  replace rz : Hid _ := keep _ _ (by omega) (by omega) rz.out
  clear H ra rb keep
  obtain ⟨a0, a1, a2, a3, a4, a5, a6, a7, a8, a9⟩ := row5_facts raz.out
  obtain ⟨b0, b1, b2, b3, b4, b5, b6, b7, b8, b9⟩ := row5_facts rbz.out
  obtain ⟨k0, k1, k2, k3, k4, k5, k6, k7, k8, k9⟩ := row5_facts rz.out
  cases hxb : x.2.2.2.2
  · rw [hxb] at a0
    cases hyb : y.2.2.2.2
    · rw [hyb] at b0
      have LX : Hid (x.1 ≤ x.2.1 ∧ y.1 ≤ y.2.1) := ⟨norm_some NX.out.1 hxb, norm_some NX.out.2 hyb⟩
      obtain ⟨q, hq⟩ : ∃ q, q = widenI x.1 x.2.1 y.1 y.2.1 ts := ⟨_, rfl⟩
      obtain ⟨K, hK⟩ : ∃ K, K = keepC x.2.2.1 x.2.2.2.1 y.2.2.1 y.2.2.2.1 := ⟨_, rfl⟩
      have HA : Hid (ans = makeN q.1 q.2 K.1 K.2) := by unfold Hid; rw [HS.out, hq, hK]; unfold widRaw; rw [if_neg (by rw [hxb]; simp), if_neg (by rw [hyb]; simp)]
      have IQ : Hid (In64 q.1 ∧ In64 q.2) := by rw [hq]; exact widenI_in RX.out.1.1 RX.out.1.2.1 RX.out.2.1 RX.out.2.2.1 LX.out.1 LX.out.2 ts
      have IK : Hid (U64 K.1 ∧ U64 K.2) := by rw [hK]; exact keep_u64 RX.out.1.2.2.1 RX.out.1.2.2.2
      have HQ : Hid _ := hq
      have HKK : Hid _ := hK
      clear hq hK
      go_wp2_with fail
      refine (rall_any Z _ (Ok.refl _)).mono ?_
      rintro e w1 ⟨rfl, hb⟩
      replace raz : Hid _ := Ok.row' hb raz.out
      replace rbz : Hid _ := Ok.row' hb rbz.out
      replace rz : Hid _ := Ok.row' hb rz.out
      have Hw1 : Hid (Ok w w1) := HZ.out.step hb
      clear hb
      unfold cv
      clear a0 a1 a2 a3 a4 a5 a6 a7 a8 a9 b0 b1 b2 b3 b4 b5 b6 b7 b8 b9 k0 k1 k2 k3 k4 k5 k6 k7 k8 k9
      obtain ⟨a0, a1, a2, a3, a4, a5, a6, a7, a8, a9⟩ := row5_facts raz.out
      obtain ⟨b0, b1, b2, b3, b4, b5, b6, b7, b8, b9⟩ := row5_facts rbz.out
      have s1 := lt_row raz.out
      have s2 := lt_row rbz.out
      have s3 := lt_row rz.out
      have s4 := Hw1.out.le
      have vga1 : ¬ w1.heap.size = ga := by omega
      have vgb1 : ¬ w1.heap.size = gb := by omega
      have vgz1 : ¬ w1.heap.size = gz := by omega
      have vga2 : ¬ ga = w1.heap.size := by omega
      have vgb2 : ¬ gb = w1.heap.size := by omega
      have vgz2 : ¬ gz = w1.heap.size := by omega
      go_wp2_with fail
      obtain ⟨Y0, hY0⟩ : ∃ W, W = w1.alloc (.cells #[.int .u64 1, .int .u64 0] 27) := ⟨_, rfl⟩
      have OY : Ok w1 Y0 := by rw [hY0]; exact (Ok.refl _).alloc _
      have rc : Hid (Y0.heap[w1.heap.size]? = some (.cells #[.int .u64 1, .int .u64 0] 27)) := by unfold Hid; rw [hY0]; exact heap_new0 _ _
      rw [← hY0]
      have HY0 : Hid (Ok w Y0) := Hw1.out.step OY
      replace raz : Hid _ := Ok.row' OY raz.out
      replace rbz : Hid _ := Ok.row' OY rbz.out
      replace rz : Hid _ := Ok.row' OY rz.out
      obtain ⟨gc, egc⟩ : ∃ g, g = w1.heap.size := ⟨_, rfl⟩
      rw [← egc] at rc vga1 vgb1 vgz1 vga2 vgb2 vgz2 s4 ⊢
      clear hY0 OY egc s1 s2 s3 Hw1 a0 a1 a2 a3 a4 a5 a6 a7 a8 a9 b0 b1 b2 b3 b4 b5 b6 b7 b8 b9
      refine (cleq_any y.2.2.1 y.2.2.2.1 x.2.2.1 x.2.2.2.1 RX.out.2.2.2.1 RX.out.2.2.2.2 RX.out.1.2.2.1 RX.out.1.2.2.2 Y0 _ (Ok.refl _)).mono ?_
      rintro e w2 ⟨rfl, hb⟩
      replace raz : Hid _ := Ok.row' hb raz.out
      replace rbz : Hid _ := Ok.row' hb rbz.out
      replace rz : Hid _ := Ok.row' hb rz.out
      replace rc : Hid _ := Ok.row' hb rc.out
      have Hw2 : Hid (Ok w w2) := HY0.out.step hb
      clear hb HY0
      obtain ⟨a0, a1, a2, a3, a4, a5, a6, a7, a8, a9⟩ := row5_facts raz.out
      obtain ⟨b0, b1, b2, b3, b4, b5, b6, b7, b8, b9⟩ := row5_facts rbz.out
      obtain ⟨k0, k1, k2, k3, k4, k5, k6, k7, k8, k9⟩ := row5_facts rz.out
      obtain ⟨c0, c1, c2, c3⟩ := row_facts rc.out
      cases hL : leqC y.2.2.1 y.2.2.2.1 x.2.2.1 x.2.2.2.1
      · have HK1 : Hid (K.1 = 1) := by unfold Hid; rw [HKK.out]; unfold keepC; rw [if_neg (by rw [hL]; simp)]
        have HK2 : Hid (K.2 = 0) := by unfold Hid; rw [HKK.out]; unfold keepC; rw [if_neg (by rw [hL]; simp)]
        go_wp2_with fail
        clear a0 a1 a2 a3 a4 a5 a6 a7 a8 a9 b0 b1 b2 b3 b4 b5 b6 b7 b8 b9 k0 k1 k2 k3 k4 k5 k6 k7 k8 k9 c0 c1 c2 c3
        have HMK : Hid (makeN q.1 q.2 1 0 = ans) := by unfold Hid; rw [HA.out, HK1.out, HK2.out]
        have HTz : Hid (SInts w2 (.slice ao n cap) ts) := SInts.ok HT.out Hw2.out
        obtain ⟨a0, a1, a2, a3, a4, a5, a6, a7, a8, a9⟩ := row5_facts raz.out
        obtain ⟨b0, b1, b2, b3, b4, b5, b6, b7, b8, b9⟩ := row5_facts rbz.out
        obtain ⟨k0, k1, k2, k3, k4, k5, k6, k7, k8, k9⟩ := row5_facts rz.out
        obtain ⟨c0, c1, c2, c3⟩ := row_facts rc.out
        have za := lt_row raz.out
        have zb := lt_row rbz.out
        have zc := lt_row rc.out
        have bz : Ok w2 w2 := Ok.refl _
        go_region_held3 (fun w' => w'.cell? ⟨ga, 1, none⟩ = some (.int .i64 x.1) ∧ w'.cell? ⟨ga, 2, none⟩ = some (.int .i64 x.2.1) ∧ w'.cell? ⟨gb, 1, none⟩ = some (.int .i64 y.1) ∧ w'.cell? ⟨gb, 2, none⟩ = some (.int .i64 y.2.1) ∧ w'.cell? ⟨gc, 0, none⟩ = some (.int .u64 (1 : Int)) ∧ w'.cell? ⟨gc, 1, none⟩ = some (.int .u64 (0 : Int))) (go_keep)
          (first
          | (go_at_call 52; refine (rwiden_any _ _ _ _ (.slice ao n cap) ts w2 _ (by repeat (first | assumption | refine Ok.alloc ?_ _ | refine Below.drew ?_)) (by first | exact HTz.out | exact SInts.ok HTz.out (by assumption) | exact SInts.ok HTz.out (Below.drew (Ok.refl _)) | exact SInts.ok HTz.out (Below.drew (by assumption)))).mono ?_; rintro e w' ⟨rfl, hb⟩; rw [← HQ.out]; have q0 := Ok.cell hb za a1; have q1 := Ok.cell hb za a2; have q2 := Ok.cell hb zb b1; have q3 := Ok.cell hb zb b2; have q4 := Ok.cell hb zc c0; have q5 := Ok.cell hb zc c1; obtain ⟨k0, k1, k2, k3, k4, k5, k6, k7, k8, k9⟩ := row5_facts (Ok.row' hb rz.out))
          | (go_at_call 33; refine (rmake_any _ _ 1 0 IQ.out.1 IQ.out.2 (by rw [← HK1.out]; exact IK.out.1) (by rw [← HK2.out]; exact IK.out.2) w2 _ (by repeat (first | assumption | refine Ok.alloc ?_ _ | refine Below.drew ?_))).mono ?_; rintro e w' ⟨rfl, hb⟩; rw [HMK.out]; unfold nv; have q0 := Ok.cell hb za a1; have q1 := Ok.cell hb za a2; have q2 := Ok.cell hb zb b1; have q3 := Ok.cell hb zb b2; have q4 := Ok.cell hb zc c0; have q5 := Ok.cell hb zc c1; obtain ⟨k0, k1, k2, k3, k4, k5, k6, k7, k8, k9⟩ := row5_facts (Ok.row' hb rz.out))
          | fail)
        go_wp2_with fail
        have hr : Hid _ := Ok.row' hb rz.out
        (try simp only [Exit.inBlock, Exit.then]); refine bodyPost_ret (results_cell_row rfl _ _ (gz) 29 #[_, _, _, _, _] (0, 0) _ rfl (row_set5 hr.out _ _ _ _ _) Tryz.underlying29 rfl infoN) rfl ?_
        exact ⟨rfl, Ok.set (Ok.set (Ok.set (Ok.set (Ok.set (Hw2.out.step hb) (show w.heap.size ≤ gz by omega) _) (show w.heap.size ≤ gz by omega) _) (show w.heap.size ≤ gz by omega) _) (show w.heap.size ≤ gz by omega) _) (show w.heap.size ≤ gz by omega) _⟩
      · have HK1 : Hid (K.1 = x.2.2.1) := by unfold Hid; rw [HKK.out]; unfold keepC; rw [if_pos hL]
        have HK2 : Hid (K.2 = x.2.2.2.1) := by unfold Hid; rw [HKK.out]; unfold keepC; rw [if_pos hL]
        go_upto_region 9 with (fail)
        obtain ⟨Z3, hZ3⟩ : ∃ Z, Z = ((w2.setCell ⟨gc, 0, none⟩ (.int .u64 (x.2.2.1 : Int))).setCell ⟨gc, 1, none⟩ (.int .u64 (x.2.2.2.1 : Int))) := ⟨_, rfl⟩
        obtain ⟨HZ3, rcz, keep⟩ := (rows_putC rc.out Hw2.out (by omega) _ _ hZ3).out
        replace HZ3 : Hid (Ok w Z3) := HZ3
        rw [← hZ3]
        replace raz : Hid _ := keep _ _ (by omega) raz.out
        replace rbz : Hid _ := keep _ _ (by omega) rbz.out
        replace rz : Hid _ := keep _ _ (by omega) rz.out
        replace rc : Hid _ := rcz
        clear keep rcz hZ3
        clear a0 a1 a2 a3 a4 a5 a6 a7 a8 a9 b0 b1 b2 b3 b4 b5 b6 b7 b8 b9 k0 k1 k2 k3 k4 k5 k6 k7 k8 k9 c0 c1 c2 c3
        have HMK : Hid (makeN q.1 q.2 x.2.2.1 x.2.2.2.1 = ans) := by unfold Hid; rw [HA.out, HK1.out, HK2.out]
        have HTz : Hid (SInts Z3 (.slice ao n cap) ts) := SInts.ok HT.out HZ3.out
        obtain ⟨a0, a1, a2, a3, a4, a5, a6, a7, a8, a9⟩ := row5_facts raz.out
        obtain ⟨b0, b1, b2, b3, b4, b5, b6, b7, b8, b9⟩ := row5_facts rbz.out
        obtain ⟨k0, k1, k2, k3, k4, k5, k6, k7, k8, k9⟩ := row5_facts rz.out
        obtain ⟨c0, c1, c2, c3⟩ := row_facts rc.out
        have za := lt_row raz.out
        have zb := lt_row rbz.out
        have zc := lt_row rc.out
        have bz : Ok Z3 Z3 := Ok.refl _
        go_region_held3 (fun w' => w'.cell? ⟨ga, 1, none⟩ = some (.int .i64 x.1) ∧ w'.cell? ⟨ga, 2, none⟩ = some (.int .i64 x.2.1) ∧ w'.cell? ⟨gb, 1, none⟩ = some (.int .i64 y.1) ∧ w'.cell? ⟨gb, 2, none⟩ = some (.int .i64 y.2.1) ∧ w'.cell? ⟨gc, 0, none⟩ = some (.int .u64 (x.2.2.1 : Int)) ∧ w'.cell? ⟨gc, 1, none⟩ = some (.int .u64 (x.2.2.2.1 : Int))) (go_keep)
          (first
          | (go_at_call 52; refine (rwiden_any _ _ _ _ (.slice ao n cap) ts Z3 _ (by repeat (first | assumption | refine Ok.alloc ?_ _ | refine Below.drew ?_)) (by first | exact HTz.out | exact SInts.ok HTz.out (by assumption) | exact SInts.ok HTz.out (Below.drew (Ok.refl _)) | exact SInts.ok HTz.out (Below.drew (by assumption)))).mono ?_; rintro e w' ⟨rfl, hb⟩; rw [← HQ.out]; have q0 := Ok.cell hb za a1; have q1 := Ok.cell hb za a2; have q2 := Ok.cell hb zb b1; have q3 := Ok.cell hb zb b2; have q4 := Ok.cell hb zc c0; have q5 := Ok.cell hb zc c1; obtain ⟨k0, k1, k2, k3, k4, k5, k6, k7, k8, k9⟩ := row5_facts (Ok.row' hb rz.out))
          | (go_at_call 33; refine (rmake_any _ _ x.2.2.1 x.2.2.2.1 IQ.out.1 IQ.out.2 (by rw [← HK1.out]; exact IK.out.1) (by rw [← HK2.out]; exact IK.out.2) Z3 _ (by repeat (first | assumption | refine Ok.alloc ?_ _ | refine Below.drew ?_))).mono ?_; rintro e w' ⟨rfl, hb⟩; rw [HMK.out]; unfold nv; have q0 := Ok.cell hb za a1; have q1 := Ok.cell hb za a2; have q2 := Ok.cell hb zb b1; have q3 := Ok.cell hb zb b2; have q4 := Ok.cell hb zc c0; have q5 := Ok.cell hb zc c1; obtain ⟨k0, k1, k2, k3, k4, k5, k6, k7, k8, k9⟩ := row5_facts (Ok.row' hb rz.out))
          | fail)
        go_wp2_with fail
        have hr : Hid _ := Ok.row' hb rz.out
        (try simp only [Exit.inBlock, Exit.then]); refine bodyPost_ret (results_cell_row rfl _ _ (gz) 29 #[_, _, _, _, _] (0, 0) _ rfl (row_set5 hr.out _ _ _ _ _) Tryz.underlying29 rfl infoN) rfl ?_
        exact ⟨rfl, Ok.set (Ok.set (Ok.set (Ok.set (Ok.set (HZ3.out.step hb) (show w.heap.size ≤ gz by omega) _) (show w.heap.size ≤ gz by omega) _) (show w.heap.size ≤ gz by omega) _) (show w.heap.size ≤ gz by omega) _) (show w.heap.size ≤ gz by omega) _⟩
    · rw [hyb] at b0
      have HA : Hid (ans = x) := by unfold Hid; rw [HS.out]; unfold widRaw; rw [if_neg (by rw [hxb]; simp), if_pos hyb]
      have hr : Hid _ := rz
      have HB : Hid _ := hxb
      go_wp2_with fail
      (try simp only [Exit.inBlock, Exit.then]); refine bodyPost_ret (results_cell_row rfl _ _ (gz) 29 #[_, _, _, _, _] (0, 0) _ rfl (row_set5 hr.out _ _ _ _ _) Tryz.underlying29 rfl infoN) rfl ?_
      exact ⟨(by rw [HA.out, HB.out]), Ok.set (Ok.set (Ok.set (Ok.set (Ok.set (HZ.out) (show w.heap.size ≤ gz by omega) _) (show w.heap.size ≤ gz by omega) _) (show w.heap.size ≤ gz by omega) _) (show w.heap.size ≤ gz by omega) _) (show w.heap.size ≤ gz by omega) _⟩
  · rw [hxb] at a0
    have HA : Hid (ans = y) := by unfold Hid; rw [HS.out]; unfold widRaw; rw [if_pos hxb]
    have hr : Hid _ := rz
    go_wp2_with fail
    (try simp only [Exit.inBlock, Exit.then]); refine bodyPost_ret (results_cell_row rfl _ _ (gz) 29 #[_, _, _, _, _] (0, 0) _ rfl (row_set5 hr.out _ _ _ _ _) Tryz.underlying29 rfl infoN) rfl ?_
    exact ⟨(by rw [HA.out]), Ok.set (Ok.set (Ok.set (Ok.set (Ok.set (HZ.out) (show w.heap.size ≤ gz by omega) _) (show w.heap.size ≤ gz by omega) _) (show w.heap.size ≤ gz by omega) _) (show w.heap.size ≤ gz by omega) _) (show w.heap.size ≤ gz by omega) _⟩
theorem rnwiden_any (a b : Int × Int × Nat × Nat × Bool) (v : Value) (ts : List Int) (ha : RawN a) (hb : RawN b) (w0 w : World) (hok : Ok w0 w) (hT : SInts w v ts) :
    Calls Tryz.prog 10 #[nv a, nv b, v] w fun e w' => e = .returned (nv (widenN a b ts)) ∧ Ok w0 w' := by
  obtain ⟨ao, n, cap, rfl⟩ := SInts.form hT
  exact (rnwiden1 a b ao n cap ts ha hb w hT).mono (fun e w' h => ⟨h.1, hok.step h.2⟩)
end Go.Proofs.YtpjpjhjjhoeijaaGreat
