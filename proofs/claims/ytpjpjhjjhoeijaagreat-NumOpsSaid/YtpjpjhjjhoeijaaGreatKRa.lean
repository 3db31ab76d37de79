import Derived.Deep.Cut
import Derived.Deep.CutRange
import Derived.Test.YtpjpjhjjhoeijaaGreatKKB
import Derived.Test.YtpjpjhjjhoeijaaGreatKRz
import Derived.Test.YtpjpjhjjhoeijaaGreatKIadd
import Derived.Test.YtpjpjhjjhoeijaaGreatKNfm
import Derived.Test.YtpjpjhjjhoeijaaGreatKCadd
import Derived.Test.YtpjpjhjjhoeijaaGreatKCsub
set_option linter.unusedVariables false
set_option linter.unusedSimpArgs false
set_option linter.unnecessarySimpa false
/- The document's Apply. -/
namespace Go.Proofs.YtpjpjhjjhoeijaaGreat
open Go.RowKit

set_option maxRecDepth 100000 in
set_option maxHeartbeats 8000000 in
theorem rapply_a (op : Int) (ho : op = 1 ∨ op = 3 ∨ op = 4) (a b : Int × Int × Nat × Nat × Bool) (ha : RawN a) (hb : RawN b) (w0 w : World) (hok : Ok w0 w) :
    Calls Tryz.prog 8 #[.int .i64 op, nv a, nv b] w fun e w' => e = .returned (.tuple #[nv (apN op a b), .int .i64 0]) ∧ Ok w0 w' := by
  have hle := hok.le
  have HU : Hid (RawN a ∧ RawN b) := ⟨ha, hb⟩
  clear ha hb
  obtain ⟨x, hx⟩ : ∃ x, x = normN a := ⟨_, rfl⟩
  obtain ⟨y, hy⟩ : ∃ x, x = normN b := ⟨_, rfl⟩
  have RX : Hid (RawN x ∧ RawN y) := by rw [hx, hy]; exact ⟨normN_raw HU.out.1, normN_raw HU.out.2⟩
  have NX : Hid (NormN x ∧ NormN y) := by rw [hx, hy]; exact ⟨normN_norm HU.out.1, normN_norm HU.out.2⟩
  have HX : Hid _ := hx
  have HY : Hid _ := hy
  obtain ⟨ans, hans⟩ : ∃ t, t = apN op a b := ⟨_, rfl⟩
  rw [← hans]
  have HS : Hid _ := hans
  clear hx hy hans
  rcases ho with rfl | rfl | rfl
  all_goals
    unfold nv
    go_enter Tryz.func8, Tryz.ntmps8
    go_wp2_with fail
    obtain ⟨W, hW⟩ : ∃ W, W = (((w).alloc (.cells #[.bool a.2.2.2.2, .int .i64 a.1, .int .i64 a.2.1, .int .u64 (a.2.2.1 : Int), .int .u64 (a.2.2.2.1 : Int)] 29)).alloc (.cells #[.bool b.2.2.2.2, .int .i64 b.1, .int .i64 b.2.1, .int .u64 (b.2.2.1 : Int), .int .u64 (b.2.2.2.1 : Int)] 29)).alloc (.cells #[.bool false, .int .i64 0, .int .i64 0, .int .u64 0, .int .u64 0] 29) := ⟨_, rfl⟩
    have ra : Hid (W.heap[w.heap.size]? = some (.cells #[.bool a.2.2.2.2, .int .i64 a.1, .int .i64 a.2.1, .int .u64 (a.2.2.1 : Int), .int .u64 (a.2.2.2.1 : Int)] 29)) := by unfold Hid; rw [hW]; exact (by repeat (first | (refine heap_at _ _ _ ?hx; case hx => (first | (simp; done) | (simp; omega))) | (refine heap_past _ _ _ ?hy ?_; case hy => (first | (simp; done) | (simp; omega))) | fail))
    have rb : Hid (W.heap[w.heap.size + 1]? = some (.cells #[.bool b.2.2.2.2, .int .i64 b.1, .int .i64 b.2.1, .int .u64 (b.2.2.1 : Int), .int .u64 (b.2.2.2.1 : Int)] 29)) := by unfold Hid; rw [hW]; exact (by repeat (first | (refine heap_at _ _ _ ?hx; case hx => (first | (simp; done) | (simp; omega))) | (refine heap_past _ _ _ ?hy ?_; case hy => (first | (simp; done) | (simp; omega))) | fail))
    have rz : Hid (W.heap[w.heap.size + 1 + 1]? = some (.cells #[.bool false, .int .i64 0, .int .i64 0, .int .u64 0, .int .u64 0] 29)) := by unfold Hid; rw [hW]; exact (by repeat (first | (refine heap_at _ _ _ ?hx; case hx => (first | (simp; done) | (simp; omega))) | (refine heap_past _ _ _ ?hy ?_; case hy => (first | (simp; done) | (simp; omega))) | fail))
    have HW : Hid (Ok w0 W) := by unfold Hid; rw [hW]; exact (by repeat (first | exact hok | refine Ok.alloc ?_ _ | refine Ok.draws ?_ _ | fail))
    rw [← hW]
    clear hW
    obtain ⟨gz, egz⟩ : ∃ g, g = w.heap.size + 1 + 1 := ⟨_, rfl⟩
    rw [← egz] at rz ⊢
    obtain ⟨gb, egb⟩ : ∃ g, g = w.heap.size + 1 := ⟨_, rfl⟩
    rw [← egb] at rb ⊢
    obtain ⟨ga, ega⟩ : ∃ g, g = w.heap.size := ⟨_, rfl⟩
    rw [← ega] at ra ⊢
    have lga : w0.heap.size ≤ ga := by omega
    have ngagb : ¬ ga = gb := by omega
    have ngagz : ¬ ga = gz := by omega
    have lgb : w0.heap.size ≤ gb := by omega
    have ngbga : ¬ gb = ga := by omega
    have ngbgz : ¬ gb = gz := by omega
    have lgz : w0.heap.size ≤ gz := by omega
    have ngzga : ¬ gz = ga := by omega
    have ngzgb : ¬ gz = gb := by omega
    clear ega egb egz
    apply wp_cutN (fun w1 => Hid (Ok w0 w1 ∧ w1.heap[ga]? = some (.cells #[.bool x.2.2.2.2, .int .i64 x.1, .int .i64 x.2.1, .int .u64 (x.2.2.1 : Int), .int .u64 (x.2.2.2.1 : Int)] 29) ∧ w1.heap[gb]? = some (.cells #[.bool y.2.2.2.2, .int .i64 y.1, .int .i64 y.2.1, .int .u64 (y.2.2.1 : Int), .int .u64 (y.2.2.2.1 : Int)] 29) ∧ (∀ (h : Nat) (o : Obj), h ≠ ga → h ≠ gb → W.heap[h]? = some o → w1.heap[h]? = some o)))
    case h1 =>
      obtain ⟨a0, a1, a2, a3, a4, a5, a6, a7, a8, a9⟩ := row5_facts ra.out
      obtain ⟨b0, b1, b2, b3, b4, b5, b6, b7, b8, b9⟩ := row5_facts rb.out
      have bz : Ok W W := Ok.refl _
      go_region_with (go_at_call 28; refine (rnorm_any _ (by first | exact HU.out.1 | exact HU.out.2) W _ (by first | assumption | exact Below.drew (by assumption))).mono ?_; rintro e w1 ⟨rfl, hb⟩; (first | rw [← HX.out] | rw [← HY.out]); unfold nv; obtain ⟨a0, a1, a2, a3, a4, a5, a6, a7, a8, a9⟩ := row5_facts (Ok.row' hb ra.out); obtain ⟨b0, b1, b2, b3, b4, b5, b6, b7, b8, b9⟩ := row5_facts (Ok.row' hb rb.out))
      all_goals exact ⟨rfl, rows_put2 (by omega) ra.out rb.out hb HW.out (by omega) (by omega) _ _ _ _ _ _ _ _ _ _⟩
    rintro Z H
    obtain ⟨HZ, raz, rbz, keep⟩ := H.out
    replace HZ : Hid (Ok w0 Z) := HZ
    replace raz : Hid _ := raz
    replace rbz : Hid _ := rbz
    replace rz : Hid _ := keep _ _ (by omega) (by omega) rz.out
    clear H ra rb keep
  · obtain ⟨a0, a1, a2, a3, a4, a5, a6, a7, a8, a9⟩ := row5_facts raz.out
    obtain ⟨b0, b1, b2, b3, b4, b5, b6, b7, b8, b9⟩ := row5_facts rbz.out
    obtain ⟨v, hv⟩ : ∃ v, v = constN 0 := ⟨_, rfl⟩
    have HT : Hid (ans = ap2 neg2N x x) := by unfold Hid; rw [HS.out, HX.out]; rfl
    have RY : Hid (RawN v) := by rw [hv]; exact const_raw in_zero
    have HYB : Hid (v.2.2.2.2 = false) := by rw [hv]; rfl
    have HV : Hid _ := hv
    clear hv
    go_wp2_with fail
    refine (rconst_any 0 Z _ (by repeat (first | exact Ok.refl _ | refine Ok.alloc ?_ _ | refine Ok.draws ?_ _ | fail))).mono ?_
    rintro e z1 ⟨rfl, hb⟩
    replace raz : Hid _ := Ok.row' hb raz.out
    replace rbz : Hid _ := Ok.row' hb rbz.out
    replace rz : Hid _ := Ok.row' hb rz.out
    have Hz1 : Hid (Ok w0 z1) := HZ.out.step hb
    clear hb
    rw [← HV.out]
    unfold nv
    clear a0 a1 a2 a3 a4 a5 a6 a7 a8 a9 b0 b1 b2 b3 b4 b5 b6 b7 b8 b9
    obtain ⟨a0, a1, a2, a3, a4, a5, a6, a7, a8, a9⟩ := row5_facts raz.out
    obtain ⟨b0, b1, b2, b3, b4, b5, b6, b7, b8, b9⟩ := row5_facts rbz.out
    go_upto_region 6 with (fail)
    obtain ⟨Z2, hZ2⟩ : ∃ Z, Z = (((((z1.setCell ⟨gb, 0, none⟩ (.bool v.2.2.2.2)).setCell ⟨gb, 1, none⟩ (.int .i64 v.1)).setCell ⟨gb, 2, none⟩ (.int .i64 v.2.1)).setCell ⟨gb, 3, none⟩ (.int .u64 (v.2.2.1 : Int))).setCell ⟨gb, 4, none⟩ (.int .u64 (v.2.2.2.1 : Int))) := ⟨_, rfl⟩
    obtain ⟨HZ2, rbzz, keep⟩ := (rows_put1 rbz.out Hz1.out (by omega) _ _ _ _ _ hZ2).out
    replace HZ2 : Hid (Ok w0 Z2) := HZ2
    replace rbzz : Hid _ := rbzz
    replace raz : Hid _ := keep _ _ (by omega) raz.out
    replace rz : Hid _ := keep _ _ (by omega) rz.out
    rw [← hZ2]
    clear hZ2 keep rbz
    clear a0 a1 a2 a3 a4 a5 a6 a7 a8 a9 b0 b1 b2 b3 b4 b5 b6 b7 b8 b9
    obtain ⟨a0, a1, a2, a3, a4, a5, a6, a7, a8, a9⟩ := row5_facts raz.out
    obtain ⟨b0, b1, b2, b3, b4, b5, b6, b7, b8, b9⟩ := row5_facts rbzz.out
    obtain ⟨k0, k1, k2, k3, k4, k5, k6, k7, k8, k9⟩ := row5_facts rz.out
    cases hxb : x.2.2.2.2
    · rw [hxb] at a0
      have hyb := HYB.out
      rw [hyb] at b0
      obtain ⟨q, hq⟩ : ∃ q, q = negI x.1 x.2.1 := ⟨_, rfl⟩
      obtain ⟨m, hm⟩ : ∃ m, m = negC x.2.2.1 x.2.2.2.1 q.2.2 := ⟨_, rfl⟩
      have IQ : Hid (In64 q.1 ∧ In64 q.2.1) := by rw [hq]; exact nneg_in _ _
      have IM : Hid (U64 m.1 ∧ U64 m.2) := by rw [hm]; exact nneg_u64 RX.out.1.2.2.1 RX.out.1.2.2.2
      have HA : Hid (ans = makeN q.1 q.2.1 m.1 m.2) := by unfold Hid; rw [HT.out, ap2_some hxb hxb, hm, hq]; rfl
      have HQ : Hid _ := hq
      have HM : Hid _ := hm
      clear hq hm
      go_wp2_with fail
      refine (rneg_any _ _ Z2 _ (Ok.refl _) RX.out.1.1 RX.out.1.2.1).mono ?_
      rintro e w3 ⟨rfl, hb⟩
      rw [← HQ.out]
      replace raz : Hid _ := Ok.row' hb raz.out
      replace rbzz : Hid _ := Ok.row' hb rbzz.out
      replace rz : Hid _ := Ok.row' hb rz.out
      have Hw3 : Hid (Ok w0 w3) := HZ2.out.step hb
      clear hb a0 a1 a2 a3 a4 a5 a6 a7 a8 a9 b0 b1 b2 b3 b4 b5 b6 b7 b8 b9 k0 k1 k2 k3 k4 k5 k6 k7 k8 k9
      obtain ⟨a0, a1, a2, a3, a4, a5, a6, a7, a8, a9⟩ := row5_facts raz.out
      obtain ⟨b0, b1, b2, b3, b4, b5, b6, b7, b8, b9⟩ := row5_facts rbzz.out
      obtain ⟨k0, k1, k2, k3, k4, k5, k6, k7, k8, k9⟩ := row5_facts rz.out
      have s1 := lt_row raz.out
      have s2 := lt_row rbzz.out
      have s3 := lt_row rz.out
      have vga1 : ¬ w3.heap.size = ga := by omega
      have vgb1 : ¬ w3.heap.size = gb := by omega
      have vgz1 : ¬ w3.heap.size = gz := by omega
      have vga2 : ¬ ga = w3.heap.size := by omega
      have vgb2 : ¬ gb = w3.heap.size := by omega
      have vgz2 : ¬ gz = w3.heap.size := by omega
      go_wp2_with fail
      obtain ⟨Y0, hY0⟩ : ∃ W, W = w3.alloc (.cells #[.int .i64 q.1, .int .i64 q.2.1] 24) := ⟨_, rfl⟩
      have OY : Ok w3 Y0 := by rw [hY0]; exact (Ok.refl _).alloc _
      have rc : Hid (Y0.heap[w3.heap.size]? = some (.cells #[.int .i64 q.1, .int .i64 q.2.1] 24)) := by unfold Hid; rw [hY0]; exact heap_new0 _ _
      rw [← hY0]
      have HY0 : Hid (Ok w0 Y0) := Hw3.out.step OY
      replace raz : Hid _ := Ok.row' OY raz.out
      replace rbzz : Hid _ := Ok.row' OY rbzz.out
      replace rz : Hid _ := Ok.row' OY rz.out
      obtain ⟨gc, egc⟩ : ∃ g, g = w3.heap.size := ⟨_, rfl⟩
      rw [← egc] at rc vga1 vgb1 vgz1 vga2 vgb2 vgz2 ⊢
      clear hY0 OY egc s1 s2 s3 a0 a1 a2 a3 a4 a5 a6 a7 a8 a9 b0 b1 b2 b3 b4 b5 b6 b7 b8 b9 k0 k1 k2 k3 k4 k5 k6 k7 k8 k9
      obtain ⟨a0, a1, a2, a3, a4, a5, a6, a7, a8, a9⟩ := row5_facts raz.out
      obtain ⟨b0, b1, b2, b3, b4, b5, b6, b7, b8, b9⟩ := row5_facts rbzz.out
      obtain ⟨k0, k1, k2, k3, k4, k5, k6, k7, k8, k9⟩ := row5_facts rz.out
      obtain ⟨c0, c1, c2, c3⟩ := row_facts rc.out
      have za := lt_row raz.out
      have zb := lt_row rbzz.out
      have zc := lt_row rc.out
      have bz : Ok Y0 Y0 := Ok.refl _
      go_region_held3 (fun w' => w'.cell? ⟨ga, 3, none⟩ = some (.int .u64 (x.2.2.1 : Int)) ∧ w'.cell? ⟨ga, 4, none⟩ = some (.int .u64 (x.2.2.2.1 : Int)) ∧ w'.cell? ⟨gc, 0, none⟩ = some (.int .i64 q.1) ∧ w'.cell? ⟨gc, 1, none⟩ = some (.int .i64 q.2.1)) (go_keep)
        (first
        | (go_at_call 34; refine (cneg_any _ _ _ RX.out.1.2.2.1 RX.out.1.2.2.2 Y0 _ (by repeat (first | assumption | refine Ok.alloc ?_ _ | refine Below.drew ?_))).mono ?_; rintro e w' ⟨rfl, hb⟩; rw [← HM.out]; unfold cv; have q0 := Ok.cell hb za a3; have q1 := Ok.cell hb za a4; have q2 := Ok.cell hb zc c0; have q3 := Ok.cell hb zc c1; obtain ⟨k0, k1, k2, k3, k4, k5, k6, k7, k8, k9⟩ := row5_facts (Ok.row' hb rz.out))
        | (go_at_call 33; refine (rmake_any _ _ _ _ IQ.out.1 IQ.out.2 IM.out.1 IM.out.2 Y0 _ (by repeat (first | assumption | refine Ok.alloc ?_ _ | refine Below.drew ?_))).mono ?_; rintro e w' ⟨rfl, hb⟩; rw [← HA.out]; unfold nv; have q0 := Ok.cell hb za a3; have q1 := Ok.cell hb za a4; have q2 := Ok.cell hb zc c0; have q3 := Ok.cell hb zc c1; obtain ⟨k0, k1, k2, k3, k4, k5, k6, k7, k8, k9⟩ := row5_facts (Ok.row' hb rz.out))
        | fail)
      go_wp2_with fail
      have hr : Hid _ := Ok.row' hb rz.out
      (try simp only [Exit.inBlock, Exit.then]); refine bodyPost_ret (results_iv rfl _ _ (gz) 29 #[_, _, _, _, _] (0, 0) _ rfl (row_set5 hr.out _ _ _ _ _) Tryz.underlying29 rfl infoN) rfl ?_
      exact ⟨rfl, Ok.set (Ok.set (Ok.set (Ok.set (Ok.set (HY0.out.step hb) (show w0.heap.size ≤ gz by omega) _) (show w0.heap.size ≤ gz by omega) _) (show w0.heap.size ≤ gz by omega) _) (show w0.heap.size ≤ gz by omega) _) (show w0.heap.size ≤ gz by omega) _⟩
    · rw [hxb] at a0
      have HA : Hid (ans = botN) := by unfold Hid; rw [HT.out, ap2_left hxb]
      go_wp2_with fail
      refine (rbot_any Z2 _ (by repeat (first | exact Ok.refl _ | refine Ok.alloc ?_ _ | refine Ok.draws ?_ _ | fail))).mono ?_
      rintro e z9 ⟨rfl, hb⟩
      have hr : Hid _ := Ok.row' hb rz.out
      obtain ⟨k0, k1, k2, k3, k4, k5, k6, k7, k8, k9⟩ := row5_facts hr.out
      unfold nv botN
      go_wp2_with fail
      (try simp only [Exit.inBlock, Exit.then]); refine bodyPost_ret (results_iv rfl _ _ (gz) 29 #[_, _, _, _, _] (0, 0) _ rfl (row_set5 hr.out _ _ _ _ _) Tryz.underlying29 rfl infoN) rfl ?_
      exact ⟨by rw [HA.out]; rfl, Ok.set (Ok.set (Ok.set (Ok.set (Ok.set (HZ2.out.step hb) (show w0.heap.size ≤ gz by omega) _) (show w0.heap.size ≤ gz by omega) _) (show w0.heap.size ≤ gz by omega) _) (show w0.heap.size ≤ gz by omega) _) (show w0.heap.size ≤ gz by omega) _⟩
  · have HT : Hid (ans = ap2 addN x y) := by unfold Hid; rw [HS.out, HX.out, HY.out]; rfl
    have RY : Hid (RawN y) := RX.out.2
    obtain ⟨a0, a1, a2, a3, a4, a5, a6, a7, a8, a9⟩ := row5_facts raz.out
    obtain ⟨b0, b1, b2, b3, b4, b5, b6, b7, b8, b9⟩ := row5_facts rbz.out
    obtain ⟨k0, k1, k2, k3, k4, k5, k6, k7, k8, k9⟩ := row5_facts rz.out
    cases hxb : x.2.2.2.2
    · rw [hxb] at a0
      cases hyb : y.2.2.2.2
      · rw [hyb] at b0
        obtain ⟨q, hq⟩ : ∃ q, q = addI x.1 x.2.1 y.1 y.2.1 := ⟨_, rfl⟩
        obtain ⟨m, hm⟩ : ∃ m, m = addC x.2.2.1 x.2.2.2.1 y.2.2.1 y.2.2.2.1 q.2.2 := ⟨_, rfl⟩
        have IQ : Hid (In64 q.1 ∧ In64 q.2.1) := by rw [hq]; exact nadd_in _ _ _ _
        have IM : Hid (U64 m.1 ∧ U64 m.2) := by rw [hm]; exact nadd_u64 RX.out.1.2.2.1 RX.out.1.2.2.2 RY.out.2.2.1 RY.out.2.2.2
        have HA : Hid (ans = makeN q.1 q.2.1 m.1 m.2) := by unfold Hid; rw [HT.out, ap2_some hxb hyb, hm, hq]; rfl
        have HQ : Hid _ := hq
        have HM : Hid _ := hm
        clear hq hm
        go_wp2_with fail
        refine (radd_any _ _ _ _ Z _ (Ok.refl _) RX.out.1.1 RX.out.1.2.1 RY.out.1 RY.out.2.1).mono ?_
        rintro e w3 ⟨rfl, hb⟩
        rw [← HQ.out]
        replace raz : Hid _ := Ok.row' hb raz.out
        replace rbz : Hid _ := Ok.row' hb rbz.out
        replace rz : Hid _ := Ok.row' hb rz.out
        have Hw3 : Hid (Ok w0 w3) := HZ.out.step hb
        clear hb a0 a1 a2 a3 a4 a5 a6 a7 a8 a9 b0 b1 b2 b3 b4 b5 b6 b7 b8 b9 k0 k1 k2 k3 k4 k5 k6 k7 k8 k9
        obtain ⟨a0, a1, a2, a3, a4, a5, a6, a7, a8, a9⟩ := row5_facts raz.out
        obtain ⟨b0, b1, b2, b3, b4, b5, b6, b7, b8, b9⟩ := row5_facts rbz.out
        obtain ⟨k0, k1, k2, k3, k4, k5, k6, k7, k8, k9⟩ := row5_facts rz.out
        have s1 := lt_row raz.out
        have s2 := lt_row rbz.out
        have s3 := lt_row rz.out
        have vga1 : ¬ w3.heap.size = ga := by omega
        have vgb1 : ¬ w3.heap.size = gb := by omega
        have vgz1 : ¬ w3.heap.size = gz := by omega
        have vga2 : ¬ ga = w3.heap.size := by omega
        have vgb2 : ¬ gb = w3.heap.size := by omega
        have vgz2 : ¬ gz = w3.heap.size := by omega
        go_wp2_with fail
        obtain ⟨Y0, hY0⟩ : ∃ W, W = w3.alloc (.cells #[.int .i64 q.1, .int .i64 q.2.1] 24) := ⟨_, rfl⟩
        have OY : Ok w3 Y0 := by rw [hY0]; exact (Ok.refl _).alloc _
        have rc : Hid (Y0.heap[w3.heap.size]? = some (.cells #[.int .i64 q.1, .int .i64 q.2.1] 24)) := by unfold Hid; rw [hY0]; exact heap_new0 _ _
        rw [← hY0]
        have HY0 : Hid (Ok w0 Y0) := Hw3.out.step OY
        replace raz : Hid _ := Ok.row' OY raz.out
        replace rbz : Hid _ := Ok.row' OY rbz.out
        replace rz : Hid _ := Ok.row' OY rz.out
        obtain ⟨gc, egc⟩ : ∃ g, g = w3.heap.size := ⟨_, rfl⟩
        rw [← egc] at rc vga1 vgb1 vgz1 vga2 vgb2 vgz2 ⊢
        clear hY0 OY egc s1 s2 s3 a0 a1 a2 a3 a4 a5 a6 a7 a8 a9 b0 b1 b2 b3 b4 b5 b6 b7 b8 b9 k0 k1 k2 k3 k4 k5 k6 k7 k8 k9
        obtain ⟨a0, a1, a2, a3, a4, a5, a6, a7, a8, a9⟩ := row5_facts raz.out
        obtain ⟨b0, b1, b2, b3, b4, b5, b6, b7, b8, b9⟩ := row5_facts rbz.out
        obtain ⟨k0, k1, k2, k3, k4, k5, k6, k7, k8, k9⟩ := row5_facts rz.out
        obtain ⟨c0, c1, c2, c3⟩ := row_facts rc.out
        have za := lt_row raz.out
        have zb := lt_row rbz.out
        have zc := lt_row rc.out
        have bz : Ok Y0 Y0 := Ok.refl _
        go_region_held3 (fun w' => w'.cell? ⟨ga, 3, none⟩ = some (.int .u64 (x.2.2.1 : Int)) ∧ w'.cell? ⟨ga, 4, none⟩ = some (.int .u64 (x.2.2.2.1 : Int)) ∧ w'.cell? ⟨gb, 3, none⟩ = some (.int .u64 (y.2.2.1 : Int)) ∧ w'.cell? ⟨gb, 4, none⟩ = some (.int .u64 (y.2.2.2.1 : Int)) ∧ w'.cell? ⟨gc, 0, none⟩ = some (.int .i64 q.1) ∧ w'.cell? ⟨gc, 1, none⟩ = some (.int .i64 q.2.1)) (go_keep)
          (first
          | (go_at_call 36; refine (cadd_any _ _ _ _ _ RX.out.1.2.2.1 RX.out.1.2.2.2 RY.out.2.2.1 RY.out.2.2.2 Y0 _ (by repeat (first | assumption | refine Ok.alloc ?_ _ | refine Below.drew ?_))).mono ?_; rintro e w' ⟨rfl, hb⟩; rw [← HM.out]; unfold cv; have q0 := Ok.cell hb za a3; have q1 := Ok.cell hb za a4; have q2 := Ok.cell hb zb b3; have q3 := Ok.cell hb zb b4; have q4 := Ok.cell hb zc c0; have q5 := Ok.cell hb zc c1; obtain ⟨k0, k1, k2, k3, k4, k5, k6, k7, k8, k9⟩ := row5_facts (Ok.row' hb rz.out))
          | (go_at_call 33; refine (rmake_any _ _ _ _ IQ.out.1 IQ.out.2 IM.out.1 IM.out.2 Y0 _ (by repeat (first | assumption | refine Ok.alloc ?_ _ | refine Below.drew ?_))).mono ?_; rintro e w' ⟨rfl, hb⟩; rw [← HA.out]; unfold nv; have q0 := Ok.cell hb za a3; have q1 := Ok.cell hb za a4; have q2 := Ok.cell hb zb b3; have q3 := Ok.cell hb zb b4; have q4 := Ok.cell hb zc c0; have q5 := Ok.cell hb zc c1; obtain ⟨k0, k1, k2, k3, k4, k5, k6, k7, k8, k9⟩ := row5_facts (Ok.row' hb rz.out))
          | fail)
        go_wp2_with fail
        have hr : Hid _ := Ok.row' hb rz.out
        (try simp only [Exit.inBlock, Exit.then]); refine bodyPost_ret (results_iv rfl _ _ (gz) 29 #[_, _, _, _, _] (0, 0) _ rfl (row_set5 hr.out _ _ _ _ _) Tryz.underlying29 rfl infoN) rfl ?_
        exact ⟨rfl, Ok.set (Ok.set (Ok.set (Ok.set (Ok.set (HY0.out.step hb) (show w0.heap.size ≤ gz by omega) _) (show w0.heap.size ≤ gz by omega) _) (show w0.heap.size ≤ gz by omega) _) (show w0.heap.size ≤ gz by omega) _) (show w0.heap.size ≤ gz by omega) _⟩
      · rw [hyb] at b0
        have HA : Hid (ans = botN) := by unfold Hid; rw [HT.out, ap2_right hyb]
        go_wp2_with fail
        refine (rbot_any Z _ (by repeat (first | exact Ok.refl _ | refine Ok.alloc ?_ _ | refine Ok.draws ?_ _ | fail))).mono ?_
        rintro e z9 ⟨rfl, hb⟩
        have hr : Hid _ := Ok.row' hb rz.out
        obtain ⟨k0, k1, k2, k3, k4, k5, k6, k7, k8, k9⟩ := row5_facts hr.out
        unfold nv botN
        go_wp2_with fail
        (try simp only [Exit.inBlock, Exit.then]); refine bodyPost_ret (results_iv rfl _ _ (gz) 29 #[_, _, _, _, _] (0, 0) _ rfl (row_set5 hr.out _ _ _ _ _) Tryz.underlying29 rfl infoN) rfl ?_
        exact ⟨by rw [HA.out]; rfl, Ok.set (Ok.set (Ok.set (Ok.set (Ok.set (HZ.out.step hb) (show w0.heap.size ≤ gz by omega) _) (show w0.heap.size ≤ gz by omega) _) (show w0.heap.size ≤ gz by omega) _) (show w0.heap.size ≤ gz by omega) _) (show w0.heap.size ≤ gz by omega) _⟩
    · rw [hxb] at a0
      have HA : Hid (ans = botN) := by unfold Hid; rw [HT.out, ap2_left hxb]
      go_wp2_with fail
      refine (rbot_any Z _ (by repeat (first | exact Ok.refl _ | refine Ok.alloc ?_ _ | refine Ok.draws ?_ _ | fail))).mono ?_
      rintro e z9 ⟨rfl, hb⟩
      have hr : Hid _ := Ok.row' hb rz.out
      obtain ⟨k0, k1, k2, k3, k4, k5, k6, k7, k8, k9⟩ := row5_facts hr.out
      unfold nv botN
      go_wp2_with fail
      (try simp only [Exit.inBlock, Exit.then]); refine bodyPost_ret (results_iv rfl _ _ (gz) 29 #[_, _, _, _, _] (0, 0) _ rfl (row_set5 hr.out _ _ _ _ _) Tryz.underlying29 rfl infoN) rfl ?_
      exact ⟨by rw [HA.out]; rfl, Ok.set (Ok.set (Ok.set (Ok.set (Ok.set (HZ.out.step hb) (show w0.heap.size ≤ gz by omega) _) (show w0.heap.size ≤ gz by omega) _) (show w0.heap.size ≤ gz by omega) _) (show w0.heap.size ≤ gz by omega) _) (show w0.heap.size ≤ gz by omega) _⟩
  · have HT : Hid (ans = ap2 subN x y) := by unfold Hid; rw [HS.out, HX.out, HY.out]; rfl
    have RY : Hid (RawN y) := RX.out.2
    obtain ⟨a0, a1, a2, a3, a4, a5, a6, a7, a8, a9⟩ := row5_facts raz.out
    obtain ⟨b0, b1, b2, b3, b4, b5, b6, b7, b8, b9⟩ := row5_facts rbz.out
    obtain ⟨k0, k1, k2, k3, k4, k5, k6, k7, k8, k9⟩ := row5_facts rz.out
    cases hxb : x.2.2.2.2
    · rw [hxb] at a0
      cases hyb : y.2.2.2.2
      · rw [hyb] at b0
        obtain ⟨q, hq⟩ : ∃ q, q = subI x.1 x.2.1 y.1 y.2.1 := ⟨_, rfl⟩
        obtain ⟨m, hm⟩ : ∃ m, m = subC x.2.2.1 x.2.2.2.1 y.2.2.1 y.2.2.2.1 q.2.2 := ⟨_, rfl⟩
        have IQ : Hid (In64 q.1 ∧ In64 q.2.1) := by rw [hq]; exact nsub_in _ _ _ _
        have IM : Hid (U64 m.1 ∧ U64 m.2) := by rw [hm]; exact nsub_u64 RX.out.1.2.2.1 RX.out.1.2.2.2 RY.out.2.2.1 RY.out.2.2.2
        have HA : Hid (ans = makeN q.1 q.2.1 m.1 m.2) := by unfold Hid; rw [HT.out, ap2_some hxb hyb, hm, hq]; rfl
        have HQ : Hid _ := hq
        have HM : Hid _ := hm
        clear hq hm
        go_wp2_with fail
        refine (rsub_any _ _ _ _ Z _ (Ok.refl _) RX.out.1.1 RX.out.1.2.1 RY.out.1 RY.out.2.1).mono ?_
        rintro e w3 ⟨rfl, hb⟩
        rw [← HQ.out]
        replace raz : Hid _ := Ok.row' hb raz.out
        replace rbz : Hid _ := Ok.row' hb rbz.out
        replace rz : Hid _ := Ok.row' hb rz.out
        have Hw3 : Hid (Ok w0 w3) := HZ.out.step hb
        clear hb a0 a1 a2 a3 a4 a5 a6 a7 a8 a9 b0 b1 b2 b3 b4 b5 b6 b7 b8 b9 k0 k1 k2 k3 k4 k5 k6 k7 k8 k9
        obtain ⟨a0, a1, a2, a3, a4, a5, a6, a7, a8, a9⟩ := row5_facts raz.out
        obtain ⟨b0, b1, b2, b3, b4, b5, b6, b7, b8, b9⟩ := row5_facts rbz.out
        obtain ⟨k0, k1, k2, k3, k4, k5, k6, k7, k8, k9⟩ := row5_facts rz.out
        have s1 := lt_row raz.out
        have s2 := lt_row rbz.out
        have s3 := lt_row rz.out
        have vga1 : ¬ w3.heap.size = ga := by omega
        have vgb1 : ¬ w3.heap.size = gb := by omega
        have vgz1 : ¬ w3.heap.size = gz := by omega
        have vga2 : ¬ ga = w3.heap.size := by omega
        have vgb2 : ¬ gb = w3.heap.size := by omega
        have vgz2 : ¬ gz = w3.heap.size := by omega
        go_wp2_with fail
        obtain ⟨Y0, hY0⟩ : ∃ W, W = w3.alloc (.cells #[.int .i64 q.1, .int .i64 q.2.1] 24) := ⟨_, rfl⟩
        have OY : Ok w3 Y0 := by rw [hY0]; exact (Ok.refl _).alloc _
        have rc : Hid (Y0.heap[w3.heap.size]? = some (.cells #[.int .i64 q.1, .int .i64 q.2.1] 24)) := by unfold Hid; rw [hY0]; exact heap_new0 _ _
        rw [← hY0]
        have HY0 : Hid (Ok w0 Y0) := Hw3.out.step OY
        replace raz : Hid _ := Ok.row' OY raz.out
        replace rbz : Hid _ := Ok.row' OY rbz.out
        replace rz : Hid _ := Ok.row' OY rz.out
        obtain ⟨gc, egc⟩ : ∃ g, g = w3.heap.size := ⟨_, rfl⟩
        rw [← egc] at rc vga1 vgb1 vgz1 vga2 vgb2 vgz2 ⊢
        clear hY0 OY egc s1 s2 s3 a0 a1 a2 a3 a4 a5 a6 a7 a8 a9 b0 b1 b2 b3 b4 b5 b6 b7 b8 b9 k0 k1 k2 k3 k4 k5 k6 k7 k8 k9
        obtain ⟨a0, a1, a2, a3, a4, a5, a6, a7, a8, a9⟩ := row5_facts raz.out
        obtain ⟨b0, b1, b2, b3, b4, b5, b6, b7, b8, b9⟩ := row5_facts rbz.out
        obtain ⟨k0, k1, k2, k3, k4, k5, k6, k7, k8, k9⟩ := row5_facts rz.out
        obtain ⟨c0, c1, c2, c3⟩ := row_facts rc.out
        have za := lt_row raz.out
        have zb := lt_row rbz.out
        have zc := lt_row rc.out
        have bz : Ok Y0 Y0 := Ok.refl _
        go_region_held3 (fun w' => w'.cell? ⟨ga, 3, none⟩ = some (.int .u64 (x.2.2.1 : Int)) ∧ w'.cell? ⟨ga, 4, none⟩ = some (.int .u64 (x.2.2.2.1 : Int)) ∧ w'.cell? ⟨gb, 3, none⟩ = some (.int .u64 (y.2.2.1 : Int)) ∧ w'.cell? ⟨gb, 4, none⟩ = some (.int .u64 (y.2.2.2.1 : Int)) ∧ w'.cell? ⟨gc, 0, none⟩ = some (.int .i64 q.1) ∧ w'.cell? ⟨gc, 1, none⟩ = some (.int .i64 q.2.1)) (go_keep)
          (first
          | (go_at_call 38; refine (csub_any _ _ _ _ _ RX.out.1.2.2.1 RX.out.1.2.2.2 RY.out.2.2.1 RY.out.2.2.2 Y0 _ (by repeat (first | assumption | refine Ok.alloc ?_ _ | refine Below.drew ?_))).mono ?_; rintro e w' ⟨rfl, hb⟩; rw [← HM.out]; unfold cv; have q0 := Ok.cell hb za a3; have q1 := Ok.cell hb za a4; have q2 := Ok.cell hb zb b3; have q3 := Ok.cell hb zb b4; have q4 := Ok.cell hb zc c0; have q5 := Ok.cell hb zc c1; obtain ⟨k0, k1, k2, k3, k4, k5, k6, k7, k8, k9⟩ := row5_facts (Ok.row' hb rz.out))
          | (go_at_call 33; refine (rmake_any _ _ _ _ IQ.out.1 IQ.out.2 IM.out.1 IM.out.2 Y0 _ (by repeat (first | assumption | refine Ok.alloc ?_ _ | refine Below.drew ?_))).mono ?_; rintro e w' ⟨rfl, hb⟩; rw [← HA.out]; unfold nv; have q0 := Ok.cell hb za a3; have q1 := Ok.cell hb za a4; have q2 := Ok.cell hb zb b3; have q3 := Ok.cell hb zb b4; have q4 := Ok.cell hb zc c0; have q5 := Ok.cell hb zc c1; obtain ⟨k0, k1, k2, k3, k4, k5, k6, k7, k8, k9⟩ := row5_facts (Ok.row' hb rz.out))
          | fail)
        go_wp2_with fail
        have hr : Hid _ := Ok.row' hb rz.out
        (try simp only [Exit.inBlock, Exit.then]); refine bodyPost_ret (results_iv rfl _ _ (gz) 29 #[_, _, _, _, _] (0, 0) _ rfl (row_set5 hr.out _ _ _ _ _) Tryz.underlying29 rfl infoN) rfl ?_
        exact ⟨rfl, Ok.set (Ok.set (Ok.set (Ok.set (Ok.set (HY0.out.step hb) (show w0.heap.size ≤ gz by omega) _) (show w0.heap.size ≤ gz by omega) _) (show w0.heap.size ≤ gz by omega) _) (show w0.heap.size ≤ gz by omega) _) (show w0.heap.size ≤ gz by omega) _⟩
      · rw [hyb] at b0
        have HA : Hid (ans = botN) := by unfold Hid; rw [HT.out, ap2_right hyb]
        go_wp2_with fail
        refine (rbot_any Z _ (by repeat (first | exact Ok.refl _ | refine Ok.alloc ?_ _ | refine Ok.draws ?_ _ | fail))).mono ?_
        rintro e z9 ⟨rfl, hb⟩
        have hr : Hid _ := Ok.row' hb rz.out
        obtain ⟨k0, k1, k2, k3, k4, k5, k6, k7, k8, k9⟩ := row5_facts hr.out
        unfold nv botN
        go_wp2_with fail
        (try simp only [Exit.inBlock, Exit.then]); refine bodyPost_ret (results_iv rfl _ _ (gz) 29 #[_, _, _, _, _] (0, 0) _ rfl (row_set5 hr.out _ _ _ _ _) Tryz.underlying29 rfl infoN) rfl ?_
        exact ⟨by rw [HA.out]; rfl, Ok.set (Ok.set (Ok.set (Ok.set (Ok.set (HZ.out.step hb) (show w0.heap.size ≤ gz by omega) _) (show w0.heap.size ≤ gz by omega) _) (show w0.heap.size ≤ gz by omega) _) (show w0.heap.size ≤ gz by omega) _) (show w0.heap.size ≤ gz by omega) _⟩
    · rw [hxb] at a0
      have HA : Hid (ans = botN) := by unfold Hid; rw [HT.out, ap2_left hxb]
      go_wp2_with fail
      refine (rbot_any Z _ (by repeat (first | exact Ok.refl _ | refine Ok.alloc ?_ _ | refine Ok.draws ?_ _ | fail))).mono ?_
      rintro e z9 ⟨rfl, hb⟩
      have hr : Hid _ := Ok.row' hb rz.out
      obtain ⟨k0, k1, k2, k3, k4, k5, k6, k7, k8, k9⟩ := row5_facts hr.out
      unfold nv botN
      go_wp2_with fail
      (try simp only [Exit.inBlock, Exit.then]); refine bodyPost_ret (results_iv rfl _ _ (gz) 29 #[_, _, _, _, _] (0, 0) _ rfl (row_set5 hr.out _ _ _ _ _) Tryz.underlying29 rfl infoN) rfl ?_
      exact ⟨by rw [HA.out]; rfl, Ok.set (Ok.set (Ok.set (Ok.set (Ok.set (HZ.out.step hb) (show w0.heap.size ≤ gz by omega) _) (show w0.heap.size ≤ gz by omega) _) (show w0.heap.size ≤ gz by omega) _) (show w0.heap.size ≤ gz by omega) _) (show w0.heap.size ≤ gz by omega) _⟩
end Go.Proofs.YtpjpjhjjhoeijaaGreat
