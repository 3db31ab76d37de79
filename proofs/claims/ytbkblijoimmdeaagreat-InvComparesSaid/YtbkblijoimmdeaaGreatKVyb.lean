import Derived.Test.YtbkblijoimmdeaaGreatKVx
import Derived.Deep.Cut
import Derived.Deep.CutRange
import Derived.Deep.RegionWith
import Derived.Deep.RegionHeld3
set_option linter.unusedVariables false
set_option linter.unusedSimpArgs false
set_option linter.unnecessarySimpa false
/- The document's Compare (winnowref14). -/
namespace Go.Proofs.YtbkblijoimmdeaaGreat
open Go.RowKit Go.Shelf
set_option maxRecDepth 100000 in
set_option maxHeartbeats 8000000 in
theorem rCmp12 (a b : Int × Int × Nat × Nat × Bool) (ha : RawN a) (hb : RawN b) (w0 w : World) (hok : Ok w0 w) :
    Calls Tryz.prog 5 #[.int .i64 12, nv a, nv b] w fun e w' => e = .returned (.tuple #[nv (cmpA 12 (normN a) (normN b)).1, nv (cmpA 12 (normN a) (normN b)).2, .int .i64 0]) ∧ Ok w0 w' := by
  have hle := hok.le
  have HU : Hid (RawN a ∧ RawN b) := ⟨ha, hb⟩
  clear ha hb
  obtain ⟨x, hx⟩ : ∃ t, t = normN a := ⟨_, rfl⟩
  obtain ⟨y, hy⟩ : ∃ t, t = normN b := ⟨_, rfl⟩
  rw [← hx, ← hy]
  have HX : Hid _ := hx
  have HY : Hid _ := hy
  have RX : Hid (RawN x) := by unfold Hid; rw [hx]; exact normN_raw HU.out.1
  have RY : Hid (RawN y) := by unfold Hid; rw [hy]; exact normN_raw HU.out.2
  have NX : Hid (NormN x) := by unfold Hid; rw [hx]; exact normN_norm HU.out.1
  have NY : Hid (NormN y) := by unfold Hid; rw [hy]; exact normN_norm HU.out.2
  clear hx hy
  obtain ⟨A, hA⟩ : ∃ t, t = cmpA 12 x y := ⟨_, rfl⟩
  rw [← hA]
  have HA : Hid _ := hA
  clear hA
  obtain ⟨xb, hxb⟩ : ∃ t, t = x.2.2.2.2 := ⟨_, rfl⟩
  obtain ⟨yb, hyb⟩ : ∃ t, t = y.2.2.2.2 := ⟨_, rfl⟩
  have HXB : Hid (x.2.2.2.2 = xb) := hxb.symm
  have HYB : Hid (y.2.2.2.2 = yb) := hyb.symm
  clear hxb hyb
  unfold nv
  go_enter Tryz.func5, Tryz.ntmps5
  go_wp2_with fail
  obtain ⟨W, hW⟩ : ∃ W, W = ((((w).alloc (.cells #[.bool a.2.2.2.2, .int .i64 a.1, .int .i64 a.2.1, .int .u64 (a.2.2.1 : Int), .int .u64 (a.2.2.2.1 : Int)] 29)).alloc (.cells #[.bool b.2.2.2.2, .int .i64 b.1, .int .i64 b.2.1, .int .u64 (b.2.2.1 : Int), .int .u64 (b.2.2.2.1 : Int)] 29)).alloc (.cells #[.bool false, .int .i64 0, .int .i64 0, .int .u64 0, .int .u64 0] 29)).alloc (.cells #[.bool false, .int .i64 0, .int .i64 0, .int .u64 0, .int .u64 0] 29) := ⟨_, rfl⟩
  have ra : Hid (W.heap[w.heap.size]? = some (.cells #[.bool a.2.2.2.2, .int .i64 a.1, .int .i64 a.2.1, .int .u64 (a.2.2.1 : Int), .int .u64 (a.2.2.2.1 : Int)] 29)) := by unfold Hid; rw [hW]; exact (by repeat (first | (refine heap_at _ _ _ ?hx; case hx => (first | (simp; done) | (simp; omega))) | (refine heap_past _ _ _ ?hy ?_; case hy => (first | (simp; done) | (simp; omega))) | fail))
  have rb : Hid (W.heap[w.heap.size + 1]? = some (.cells #[.bool b.2.2.2.2, .int .i64 b.1, .int .i64 b.2.1, .int .u64 (b.2.2.1 : Int), .int .u64 (b.2.2.2.1 : Int)] 29)) := by unfold Hid; rw [hW]; exact (by repeat (first | (refine heap_at _ _ _ ?hx; case hx => (first | (simp; done) | (simp; omega))) | (refine heap_past _ _ _ ?hy ?_; case hy => (first | (simp; done) | (simp; omega))) | fail))
  have rp : Hid (W.heap[w.heap.size + 1 + 1]? = some (.cells #[.bool false, .int .i64 0, .int .i64 0, .int .u64 0, .int .u64 0] 29)) := by unfold Hid; rw [hW]; exact (by repeat (first | (refine heap_at _ _ _ ?hx; case hx => (first | (simp; done) | (simp; omega))) | (refine heap_past _ _ _ ?hy ?_; case hy => (first | (simp; done) | (simp; omega))) | fail))
  have rq : Hid (W.heap[w.heap.size + 1 + 1 + 1]? = some (.cells #[.bool false, .int .i64 0, .int .i64 0, .int .u64 0, .int .u64 0] 29)) := by unfold Hid; rw [hW]; exact (by repeat (first | (refine heap_at _ _ _ ?hx; case hx => (first | (simp; done) | (simp; omega))) | (refine heap_past _ _ _ ?hy ?_; case hy => (first | (simp; done) | (simp; omega))) | fail))
  have HW : Hid (Ok w0 W) := by unfold Hid; rw [hW]; exact (by repeat (first | exact hok | refine Ok.alloc ?_ _ | refine Ok.draws ?_ _ | fail))
  rw [← hW]
  clear hW
  obtain ⟨gq, egq⟩ : ∃ g, g = w.heap.size + 1 + 1 + 1 := ⟨_, rfl⟩
  rw [← egq] at rq ⊢
  obtain ⟨gp, egp⟩ : ∃ g, g = w.heap.size + 1 + 1 := ⟨_, rfl⟩
  rw [← egp] at rp ⊢
  obtain ⟨gb, egb⟩ : ∃ g, g = w.heap.size + 1 := ⟨_, rfl⟩
  rw [← egb] at rb ⊢
  obtain ⟨ga, ega⟩ : ∃ g, g = w.heap.size := ⟨_, rfl⟩
  rw [← ega] at ra ⊢
  have lga : w0.heap.size ≤ ga := by omega
  have ngagb : ¬ ga = gb := by omega
  have ngagp : ¬ ga = gp := by omega
  have ngagq : ¬ ga = gq := by omega
  have lgb : w0.heap.size ≤ gb := by omega
  have ngbga : ¬ gb = ga := by omega
  have ngbgp : ¬ gb = gp := by omega
  have ngbgq : ¬ gb = gq := by omega
  have lgp : w0.heap.size ≤ gp := by omega
  have ngpga : ¬ gp = ga := by omega
  have ngpgb : ¬ gp = gb := by omega
  have ngpgq : ¬ gp = gq := by omega
  have lgq : w0.heap.size ≤ gq := by omega
  have ngqga : ¬ gq = ga := by omega
  have ngqgb : ¬ gq = gb := by omega
  have ngqgp : ¬ gq = gp := by omega
  clear ega egb egp egq
  refine (rNegate_any 12 (Or.inr (Or.inr (Or.inr (Or.inr (Or.inl rfl))))) W _ (by repeat (first | exact Ok.refl _ | refine Ok.alloc ?_ _ | refine Ok.draws ?_ _ | fail))).mono ?_
  rintro e w1 ⟨rfl, hb⟩
  replace ra : Hid _ := Ok.row' hb ra.out
  replace rb : Hid _ := Ok.row' hb rb.out
  replace rp : Hid _ := Ok.row' hb rp.out
  replace rq : Hid _ := Ok.row' hb rq.out
  have Hw1 : Hid (Ok w0 w1) := HW.out.step hb
  clear hb
  obtain ⟨a0, a1, a2, a3, a4, a5, a6, a7, a8, a9⟩ := row5_facts ra.out
  go_wp2_with fail
  clear a0 a1 a2 a3 a4 a5 a6 a7 a8 a9
  refine (rbot14_any a HU.out.1 w1 _ (by repeat (first | exact Ok.refl _ | refine Ok.alloc ?_ _ | refine Ok.draws ?_ _ | fail))).mono ?_
  rintro e w2 ⟨rfl, hb⟩
  replace ra : Hid _ := Ok.row' hb ra.out
  replace rb : Hid _ := Ok.row' hb rb.out
  replace rp : Hid _ := Ok.row' hb rp.out
  replace rq : Hid _ := Ok.row' hb rq.out
  have Hw2 : Hid (Ok w0 w2) := Hw1.out.step hb
  clear hb
  rw [← HX.out, HXB.out]
  cases xb
  · obtain ⟨b0, b1, b2, b3, b4, b5, b6, b7, b8, b9⟩ := row5_facts rb.out
    go_wp2_with fail
    clear b0 b1 b2 b3 b4 b5 b6 b7 b8 b9
    refine (rbot14_any b HU.out.2 w2 _ (by repeat (first | exact Ok.refl _ | refine Ok.alloc ?_ _ | refine Ok.draws ?_ _ | fail))).mono ?_
    rintro e w3 ⟨rfl, hb⟩
    replace ra : Hid _ := Ok.row' hb ra.out
    replace rb : Hid _ := Ok.row' hb rb.out
    replace rp : Hid _ := Ok.row' hb rp.out
    replace rq : Hid _ := Ok.row' hb rq.out
    have Hw3 : Hid (Ok w0 w3) := Hw2.out.step hb
    clear hb
    rw [← HY.out, HYB.out]
    cases yb
    · have E0 : Hid (A = ansN (compN 12 x y).1 (compN 12 x y).2) := by unfold Hid; rw [HA.out]; unfold cmpA; rw [if_neg (by rw [HXB.out, HYB.out]; simp)]
      clear HA
      go_wp2_with fail
      obtain ⟨V, eV⟩ : ∃ t, t = w3 := ⟨_, rfl⟩
      rw [← eV] at ra rb rp rq Hw3 ⊢
      have HV : Hid (Ok w0 V) := Hw3
      clear eV Hw3
      apply wp_cutN (fun w1 => Hid (Ok w0 w1 ∧ w1.heap[ga]? = some (.cells #[.bool x.2.2.2.2, .int .i64 x.1, .int .i64 x.2.1, .int .u64 (x.2.2.1 : Int), .int .u64 (x.2.2.2.1 : Int)] 29) ∧ w1.heap[gb]? = some (.cells #[.bool y.2.2.2.2, .int .i64 y.1, .int .i64 y.2.1, .int .u64 (y.2.2.1 : Int), .int .u64 (y.2.2.2.1 : Int)] 29) ∧ (∀ (h : Nat) (o : Obj), h ≠ ga → h ≠ gb → V.heap[h]? = some o → w1.heap[h]? = some o)))
      case h1 =>
        obtain ⟨a0, a1, a2, a3, a4, a5, a6, a7, a8, a9⟩ := row5_facts ra.out
        obtain ⟨b0, b1, b2, b3, b4, b5, b6, b7, b8, b9⟩ := row5_facts rb.out
        have bz : Ok V V := Ok.refl _
        go_region_with (go_at_call 14; refine (rnorm_any _ (by first | exact HU.out.1 | exact HU.out.2) V _ (by first | assumption | exact Below.drew (by assumption))).mono ?_; rintro e w1 ⟨rfl, hb⟩; (first | rw [← HX.out] | rw [← HY.out]); unfold nv; obtain ⟨a0, a1, a2, a3, a4, a5, a6, a7, a8, a9⟩ := row5_facts (Ok.row' hb ra.out); obtain ⟨b0, b1, b2, b3, b4, b5, b6, b7, b8, b9⟩ := row5_facts (Ok.row' hb rb.out))
        all_goals exact ⟨rfl, rows_put2 (by omega) ra.out rb.out hb HV.out (by omega) (by omega) _ _ _ _ _ _ _ _ _ _⟩
      case h2 =>
        rintro Z H
        obtain ⟨HZ, raz, rbz, keep⟩ := H.out
        replace HZ : Hid (Ok w0 Z) := HZ
        replace raz : Hid _ := raz
        replace rbz : Hid _ := rbz
        replace rp : Hid _ := keep _ _ (by omega) (by omega) rp.out
        replace rq : Hid _ := keep _ _ (by omega) (by omega) rq.out
        clear H ra rb keep
        have ra : Hid _ := raz
        have rb : Hid _ := rbz
        clear raz rbz
        obtain ⟨m, hm⟩ : ∃ t, meetN x y = t := ⟨_, rfl⟩
        have HM : Hid (meetN x y = m) := hm
        obtain ⟨B, hB⟩ : ∃ t, ansN m m = t := ⟨_, rfl⟩
        have HB : Hid (ansN m m = B) := hB
        have E1 : Hid (A = B) := by unfold Hid; rw [E0.out, ← hB, ← hm]; rfl
        clear hm hB
        obtain ⟨a0, a1, a2, a3, a4, a5, a6, a7, a8, a9⟩ := row5_facts ra.out
        obtain ⟨b0, b1, b2, b3, b4, b5, b6, b7, b8, b9⟩ := row5_facts rb.out
        go_wp2_with fail
        clear a0 a1 a2 a3 a4 a5 a6 a7 a8 a9 b0 b1 b2 b3 b4 b5 b6 b7 b8 b9
        refine (rnmeet_any x y RX.out RY.out Z _ (Ok.refl _)).mono ?_
        rintro e w5 ⟨rfl, hb⟩
        rw [HM.out]
        replace rp : Hid _ := Ok.row' hb rp.out
        replace rq : Hid _ := Ok.row' hb rq.out
        have Hw5 : Hid (Ok w0 w5) := HZ.out.step hb
        clear hb
        unfold nv
        go_wp2_with fail
        obtain ⟨V5, hV5⟩ : ∃ W, W = w5.alloc (.cells #[.bool m.2.2.2.2, .int .i64 m.1, .int .i64 m.2.1, .int .u64 (m.2.2.1 : Int), .int .u64 (m.2.2.2.1 : Int)] 29) := ⟨_, rfl⟩
        have O5 : Ok w5 V5 := by rw [hV5]; exact (Ok.refl _).alloc _
        rw [← hV5]
        replace rp : Hid _ := Ok.row' O5 rp.out
        replace rq : Hid _ := Ok.row' O5 rq.out
        have HV5 : Hid (Ok w0 V5) := Hw5.out.step O5
        clear hV5 O5
        refine (rboth_any m m V5 _ (Ok.refl _)).mono ?_
        rintro e w6 ⟨rfl, hb⟩
        rw [HB.out]
        replace rp : Hid _ := Ok.row' hb rp.out
        replace rq : Hid _ := Ok.row' hb rq.out
        have Hw6 : Hid (Ok w0 w6) := HV5.out.step hb
        clear hb
        unfold nv
        obtain ⟨k0, k1, k2, k3, k4, k5, k6, k7, k8, k9⟩ := row5_facts rp.out
        obtain ⟨j0, j1, j2, j3, j4, j5, j6, j7, j8, j9⟩ := row5_facts rq.out
        go_wp2_with fail
        obtain ⟨Y, hY⟩ : ∃ Z, Z = ((((((((((w6.setCell ⟨gp, 0, none⟩ (.bool B.1.2.2.2.2)).setCell ⟨gp, 1, none⟩ (.int .i64 B.1.1)).setCell ⟨gp, 2, none⟩ (.int .i64 B.1.2.1)).setCell ⟨gp, 3, none⟩ (.int .u64 (B.1.2.2.1 : Int))).setCell ⟨gp, 4, none⟩ (.int .u64 (B.1.2.2.2.1 : Int))).setCell ⟨gq, 0, none⟩ (.bool B.2.2.2.2.2)).setCell ⟨gq, 1, none⟩ (.int .i64 B.2.1)).setCell ⟨gq, 2, none⟩ (.int .i64 B.2.2.1)).setCell ⟨gq, 3, none⟩ (.int .u64 (B.2.2.2.1 : Int))).setCell ⟨gq, 4, none⟩ (.int .u64 (B.2.2.2.2.1 : Int))) := ⟨_, rfl⟩
        have hp := rows_putr ngpgq rp.out rq.out Hw6.out lgp lgq _ _ _ _ _ _ _ _ _ _ hY
        rw [← hY]
        clear hY
        refine bodyPost_ret (results_2ct rfl _ _ gp gq 29 #[_, _, _, _, _] #[_, _, _, _, _] (0, 0) _ rfl rfl hp.2.1 hp.2.2 Tryz.underlying29 rfl infoN infoN) rfl ?_
        exact ⟨(by rw [E1.out]; rfl), hp.1⟩
    · have E0 : Hid (A = (botN, botN)) := by unfold Hid; rw [HA.out]; unfold cmpA; rw [if_pos (Or.inr HYB.out)]
      go_wp2_with fail
      refine (rbot_any w3 _ (Ok.refl _)).mono ?_
      rintro e x1 ⟨rfl, hb⟩
      replace rp : Hid _ := Ok.row' hb rp.out
      replace rq : Hid _ := Ok.row' hb rq.out
      have Hx1 : Hid (Ok w0 x1) := Hw3.out.step hb
      clear hb
      unfold nv botN
      go_wp2_with fail
      refine (rbot_any x1 _ (Ok.refl _)).mono ?_
      rintro e x2 ⟨rfl, hb⟩
      replace rp : Hid _ := Ok.row' hb rp.out
      replace rq : Hid _ := Ok.row' hb rq.out
      have Hx2 : Hid (Ok w0 x2) := Hx1.out.step hb
      clear hb
      unfold nv botN
      obtain ⟨k0, k1, k2, k3, k4, k5, k6, k7, k8, k9⟩ := row5_facts rp.out
      obtain ⟨j0, j1, j2, j3, j4, j5, j6, j7, j8, j9⟩ := row5_facts rq.out
      go_wp2_with fail
      obtain ⟨Y, hY⟩ : ∃ Z, Z = ((((((((((x2.setCell ⟨gp, 0, none⟩ (.bool true)).setCell ⟨gp, 1, none⟩ (.int .i64 0)).setCell ⟨gp, 2, none⟩ (.int .i64 0)).setCell ⟨gp, 3, none⟩ (.int .u64 0)).setCell ⟨gp, 4, none⟩ (.int .u64 0)).setCell ⟨gq, 0, none⟩ (.bool true)).setCell ⟨gq, 1, none⟩ (.int .i64 0)).setCell ⟨gq, 2, none⟩ (.int .i64 0)).setCell ⟨gq, 3, none⟩ (.int .u64 0)).setCell ⟨gq, 4, none⟩ (.int .u64 0)) := ⟨_, rfl⟩
      have hp := rows_putr ngpgq rp.out rq.out Hx2.out lgp lgq _ _ _ _ _ _ _ _ _ _ hY
      rw [← hY]
      clear hY
      refine bodyPost_ret (results_2ct rfl _ _ gp gq 29 #[_, _, _, _, _] #[_, _, _, _, _] (0, 0) _ rfl rfl hp.2.1 hp.2.2 Tryz.underlying29 rfl infoN infoN) rfl ?_
      exact ⟨(by rw [E0.out]; rfl), hp.1⟩
  · have E0 : Hid (A = (botN, botN)) := by unfold Hid; rw [HA.out]; unfold cmpA; rw [if_pos (Or.inl HXB.out)]
    go_wp2_with fail
    refine (rbot_any w2 _ (Ok.refl _)).mono ?_
    rintro e x1 ⟨rfl, hb⟩
    replace rp : Hid _ := Ok.row' hb rp.out
    replace rq : Hid _ := Ok.row' hb rq.out
    have Hx1 : Hid (Ok w0 x1) := Hw2.out.step hb
    clear hb
    unfold nv botN
    go_wp2_with fail
    refine (rbot_any x1 _ (Ok.refl _)).mono ?_
    rintro e x2 ⟨rfl, hb⟩
    replace rp : Hid _ := Ok.row' hb rp.out
    replace rq : Hid _ := Ok.row' hb rq.out
    have Hx2 : Hid (Ok w0 x2) := Hx1.out.step hb
    clear hb
    unfold nv botN
    obtain ⟨k0, k1, k2, k3, k4, k5, k6, k7, k8, k9⟩ := row5_facts rp.out
    obtain ⟨j0, j1, j2, j3, j4, j5, j6, j7, j8, j9⟩ := row5_facts rq.out
    go_wp2_with fail
    obtain ⟨Y, hY⟩ : ∃ Z, Z = ((((((((((x2.setCell ⟨gp, 0, none⟩ (.bool true)).setCell ⟨gp, 1, none⟩ (.int .i64 0)).setCell ⟨gp, 2, none⟩ (.int .i64 0)).setCell ⟨gp, 3, none⟩ (.int .u64 0)).setCell ⟨gp, 4, none⟩ (.int .u64 0)).setCell ⟨gq, 0, none⟩ (.bool true)).setCell ⟨gq, 1, none⟩ (.int .i64 0)).setCell ⟨gq, 2, none⟩ (.int .i64 0)).setCell ⟨gq, 3, none⟩ (.int .u64 0)).setCell ⟨gq, 4, none⟩ (.int .u64 0)) := ⟨_, rfl⟩
    have hp := rows_putr ngpgq rp.out rq.out Hx2.out lgp lgq _ _ _ _ _ _ _ _ _ _ hY
    rw [← hY]
    clear hY
    refine bodyPost_ret (results_2ct rfl _ _ gp gq 29 #[_, _, _, _, _] #[_, _, _, _, _] (0, 0) _ rfl rfl hp.2.1 hp.2.2 Tryz.underlying29 rfl infoN infoN) rfl ?_
    exact ⟨(by rw [E0.out]; rfl), hp.1⟩
set_option maxRecDepth 100000 in
set_option maxHeartbeats 8000000 in
theorem rCmp13 (a b : Int × Int × Nat × Nat × Bool) (ha : RawN a) (hb : RawN b) (w0 w : World) (hok : Ok w0 w) :
    Calls Tryz.prog 5 #[.int .i64 13, nv a, nv b] w fun e w' => e = .returned (.tuple #[nv (cmpA 13 (normN a) (normN b)).1, nv (cmpA 13 (normN a) (normN b)).2, .int .i64 0]) ∧ Ok w0 w' := by
  have hle := hok.le
  have HU : Hid (RawN a ∧ RawN b) := ⟨ha, hb⟩
  clear ha hb
  obtain ⟨x, hx⟩ : ∃ t, t = normN a := ⟨_, rfl⟩
  obtain ⟨y, hy⟩ : ∃ t, t = normN b := ⟨_, rfl⟩
  rw [← hx, ← hy]
  have HX : Hid _ := hx
  have HY : Hid _ := hy
  have RX : Hid (RawN x) := by unfold Hid; rw [hx]; exact normN_raw HU.out.1
  have RY : Hid (RawN y) := by unfold Hid; rw [hy]; exact normN_raw HU.out.2
  have NX : Hid (NormN x) := by unfold Hid; rw [hx]; exact normN_norm HU.out.1
  have NY : Hid (NormN y) := by unfold Hid; rw [hy]; exact normN_norm HU.out.2
  clear hx hy
  obtain ⟨A, hA⟩ : ∃ t, t = cmpA 13 x y := ⟨_, rfl⟩
  rw [← hA]
  have HA : Hid _ := hA
  clear hA
  obtain ⟨xb, hxb⟩ : ∃ t, t = x.2.2.2.2 := ⟨_, rfl⟩
  obtain ⟨yb, hyb⟩ : ∃ t, t = y.2.2.2.2 := ⟨_, rfl⟩
  have HXB : Hid (x.2.2.2.2 = xb) := hxb.symm
  have HYB : Hid (y.2.2.2.2 = yb) := hyb.symm
  clear hxb hyb
  unfold nv
  go_enter Tryz.func5, Tryz.ntmps5
  go_wp2_with fail
  obtain ⟨W, hW⟩ : ∃ W, W = ((((w).alloc (.cells #[.bool a.2.2.2.2, .int .i64 a.1, .int .i64 a.2.1, .int .u64 (a.2.2.1 : Int), .int .u64 (a.2.2.2.1 : Int)] 29)).alloc (.cells #[.bool b.2.2.2.2, .int .i64 b.1, .int .i64 b.2.1, .int .u64 (b.2.2.1 : Int), .int .u64 (b.2.2.2.1 : Int)] 29)).alloc (.cells #[.bool false, .int .i64 0, .int .i64 0, .int .u64 0, .int .u64 0] 29)).alloc (.cells #[.bool false, .int .i64 0, .int .i64 0, .int .u64 0, .int .u64 0] 29) := ⟨_, rfl⟩
  have ra : Hid (W.heap[w.heap.size]? = some (.cells #[.bool a.2.2.2.2, .int .i64 a.1, .int .i64 a.2.1, .int .u64 (a.2.2.1 : Int), .int .u64 (a.2.2.2.1 : Int)] 29)) := by unfold Hid; rw [hW]; exact (by repeat (first | (refine heap_at _ _ _ ?hx; case hx => (first | (simp; done) | (simp; omega))) | (refine heap_past _ _ _ ?hy ?_; case hy => (first | (simp; done) | (simp; omega))) | fail))
  have rb : Hid (W.heap[w.heap.size + 1]? = some (.cells #[.bool b.2.2.2.2, .int .i64 b.1, .int .i64 b.2.1, .int .u64 (b.2.2.1 : Int), .int .u64 (b.2.2.2.1 : Int)] 29)) := by unfold Hid; rw [hW]; exact (by repeat (first | (refine heap_at _ _ _ ?hx; case hx => (first | (simp; done) | (simp; omega))) | (refine heap_past _ _ _ ?hy ?_; case hy => (first | (simp; done) | (simp; omega))) | fail))
  have rp : Hid (W.heap[w.heap.size + 1 + 1]? = some (.cells #[.bool false, .int .i64 0, .int .i64 0, .int .u64 0, .int .u64 0] 29)) := by unfold Hid; rw [hW]; exact (by repeat (first | (refine heap_at _ _ _ ?hx; case hx => (first | (simp; done) | (simp; omega))) | (refine heap_past _ _ _ ?hy ?_; case hy => (first | (simp; done) | (simp; omega))) | fail))
  have rq : Hid (W.heap[w.heap.size + 1 + 1 + 1]? = some (.cells #[.bool false, .int .i64 0, .int .i64 0, .int .u64 0, .int .u64 0] 29)) := by unfold Hid; rw [hW]; exact (by repeat (first | (refine heap_at _ _ _ ?hx; case hx => (first | (simp; done) | (simp; omega))) | (refine heap_past _ _ _ ?hy ?_; case hy => (first | (simp; done) | (simp; omega))) | fail))
  have HW : Hid (Ok w0 W) := by unfold Hid; rw [hW]; exact (by repeat (first | exact hok | refine Ok.alloc ?_ _ | refine Ok.draws ?_ _ | fail))
  rw [← hW]
  clear hW
  obtain ⟨gq, egq⟩ : ∃ g, g = w.heap.size + 1 + 1 + 1 := ⟨_, rfl⟩
  rw [← egq] at rq ⊢
  obtain ⟨gp, egp⟩ : ∃ g, g = w.heap.size + 1 + 1 := ⟨_, rfl⟩
  rw [← egp] at rp ⊢
  obtain ⟨gb, egb⟩ : ∃ g, g = w.heap.size + 1 := ⟨_, rfl⟩
  rw [← egb] at rb ⊢
  obtain ⟨ga, ega⟩ : ∃ g, g = w.heap.size := ⟨_, rfl⟩
  rw [← ega] at ra ⊢
  have lga : w0.heap.size ≤ ga := by omega
  have ngagb : ¬ ga = gb := by omega
  have ngagp : ¬ ga = gp := by omega
  have ngagq : ¬ ga = gq := by omega
  have lgb : w0.heap.size ≤ gb := by omega
  have ngbga : ¬ gb = ga := by omega
  have ngbgp : ¬ gb = gp := by omega
  have ngbgq : ¬ gb = gq := by omega
  have lgp : w0.heap.size ≤ gp := by omega
  have ngpga : ¬ gp = ga := by omega
  have ngpgb : ¬ gp = gb := by omega
  have ngpgq : ¬ gp = gq := by omega
  have lgq : w0.heap.size ≤ gq := by omega
  have ngqga : ¬ gq = ga := by omega
  have ngqgb : ¬ gq = gb := by omega
  have ngqgp : ¬ gq = gp := by omega
  clear ega egb egp egq
  refine (rNegate_any 13 (Or.inr (Or.inr (Or.inr (Or.inr (Or.inr (rfl)))))) W _ (by repeat (first | exact Ok.refl _ | refine Ok.alloc ?_ _ | refine Ok.draws ?_ _ | fail))).mono ?_
  rintro e w1 ⟨rfl, hb⟩
  replace ra : Hid _ := Ok.row' hb ra.out
  replace rb : Hid _ := Ok.row' hb rb.out
  replace rp : Hid _ := Ok.row' hb rp.out
  replace rq : Hid _ := Ok.row' hb rq.out
  have Hw1 : Hid (Ok w0 w1) := HW.out.step hb
  clear hb
  obtain ⟨a0, a1, a2, a3, a4, a5, a6, a7, a8, a9⟩ := row5_facts ra.out
  go_wp2_with fail
  clear a0 a1 a2 a3 a4 a5 a6 a7 a8 a9
  refine (rbot14_any a HU.out.1 w1 _ (by repeat (first | exact Ok.refl _ | refine Ok.alloc ?_ _ | refine Ok.draws ?_ _ | fail))).mono ?_
  rintro e w2 ⟨rfl, hb⟩
  replace ra : Hid _ := Ok.row' hb ra.out
  replace rb : Hid _ := Ok.row' hb rb.out
  replace rp : Hid _ := Ok.row' hb rp.out
  replace rq : Hid _ := Ok.row' hb rq.out
  have Hw2 : Hid (Ok w0 w2) := Hw1.out.step hb
  clear hb
  rw [← HX.out, HXB.out]
  cases xb
  · obtain ⟨b0, b1, b2, b3, b4, b5, b6, b7, b8, b9⟩ := row5_facts rb.out
    go_wp2_with fail
    clear b0 b1 b2 b3 b4 b5 b6 b7 b8 b9
    refine (rbot14_any b HU.out.2 w2 _ (by repeat (first | exact Ok.refl _ | refine Ok.alloc ?_ _ | refine Ok.draws ?_ _ | fail))).mono ?_
    rintro e w3 ⟨rfl, hb⟩
    replace ra : Hid _ := Ok.row' hb ra.out
    replace rb : Hid _ := Ok.row' hb rb.out
    replace rp : Hid _ := Ok.row' hb rp.out
    replace rq : Hid _ := Ok.row' hb rq.out
    have Hw3 : Hid (Ok w0 w3) := Hw2.out.step hb
    clear hb
    rw [← HY.out, HYB.out]
    cases yb
    · have E0 : Hid (A = ansN (compN 13 x y).1 (compN 13 x y).2) := by unfold Hid; rw [HA.out]; unfold cmpA; rw [if_neg (by rw [HXB.out, HYB.out]; simp)]
      clear HA
      go_wp2_with fail
      obtain ⟨V, eV⟩ : ∃ t, t = w3 := ⟨_, rfl⟩
      rw [← eV] at ra rb rp rq Hw3 ⊢
      have HV : Hid (Ok w0 V) := Hw3
      clear eV Hw3
      apply wp_cutN (fun w1 => Hid (Ok w0 w1 ∧ w1.heap[ga]? = some (.cells #[.bool x.2.2.2.2, .int .i64 x.1, .int .i64 x.2.1, .int .u64 (x.2.2.1 : Int), .int .u64 (x.2.2.2.1 : Int)] 29) ∧ w1.heap[gb]? = some (.cells #[.bool y.2.2.2.2, .int .i64 y.1, .int .i64 y.2.1, .int .u64 (y.2.2.1 : Int), .int .u64 (y.2.2.2.1 : Int)] 29) ∧ (∀ (h : Nat) (o : Obj), h ≠ ga → h ≠ gb → V.heap[h]? = some o → w1.heap[h]? = some o)))
      case h1 =>
        obtain ⟨a0, a1, a2, a3, a4, a5, a6, a7, a8, a9⟩ := row5_facts ra.out
        obtain ⟨b0, b1, b2, b3, b4, b5, b6, b7, b8, b9⟩ := row5_facts rb.out
        have bz : Ok V V := Ok.refl _
        go_region_with (go_at_call 14; refine (rnorm_any _ (by first | exact HU.out.1 | exact HU.out.2) V _ (by first | assumption | exact Below.drew (by assumption))).mono ?_; rintro e w1 ⟨rfl, hb⟩; (first | rw [← HX.out] | rw [← HY.out]); unfold nv; obtain ⟨a0, a1, a2, a3, a4, a5, a6, a7, a8, a9⟩ := row5_facts (Ok.row' hb ra.out); obtain ⟨b0, b1, b2, b3, b4, b5, b6, b7, b8, b9⟩ := row5_facts (Ok.row' hb rb.out))
        all_goals exact ⟨rfl, rows_put2 (by omega) ra.out rb.out hb HV.out (by omega) (by omega) _ _ _ _ _ _ _ _ _ _⟩
      case h2 =>
        rintro Z H
        obtain ⟨HZ, raz, rbz, keep⟩ := H.out
        replace HZ : Hid (Ok w0 Z) := HZ
        replace raz : Hid _ := raz
        replace rbz : Hid _ := rbz
        replace rp : Hid _ := keep _ _ (by omega) (by omega) rp.out
        replace rq : Hid _ := keep _ _ (by omega) (by omega) rq.out
        clear H ra rb keep
        have ra : Hid _ := raz
        have rb : Hid _ := rbz
        clear raz rbz
        have rZa := ra
        have rZb := rb
        have rZp := rp
        have rZq := rq
        go_wp2_with fail
        refine wp_region_inv (by kernel_rfl) (by kernel_rfl) (fun F l fr u => ∃ (b0 b1 b2 b3 b4 b5 : Bool) (s127 s128 s18 s19 : Value) (g2 g3 : Nat), l = #[b0, b1, b2, b3, b4, b5] ∧ fr = ((((F.put (some 127) s127).put (some 128) s128).put (some 18) s18).put (some 19) s19) ∧ Ok Z u ∧ (b0 = true → s127 = .agg #[.bool x.2.2.2.2, .int .i64 x.1, .int .i64 x.2.1, .int .u64 (x.2.2.1 : Int), .int .u64 (x.2.2.2.1 : Int)]) ∧ (b1 = true → s128 = .agg #[.bool y.2.2.2.2, .int .i64 y.1, .int .i64 y.2.1, .int .u64 (y.2.2.1 : Int), .int .u64 (y.2.2.2.1 : Int)]) ∧ (b2 = true → s18 = .pointer (some ⟨g2, 0, none⟩)) ∧ (b2 = true → Z.heap.size ≤ g2) ∧ (b2 = true → b4 = false → u.heap[g2]? = some (.cells #[.bool false, .int .i64 0, .int .i64 0, .int .u64 0, .int .u64 0] 29 (0, 0))) ∧ (b4 = true → u.heap[g2]? = some (.cells #[.bool x.2.2.2.2, .int .i64 x.1, .int .i64 x.2.1, .int .u64 (x.2.2.1 : Int), .int .u64 (x.2.2.2.1 : Int)] 29 (0, 0))) ∧ (b4 = true → b2 = true) ∧ (b3 = true → s19 = .pointer (some ⟨g3, 0, none⟩)) ∧ (b3 = true → Z.heap.size ≤ g3) ∧ (b3 = true → b5 = false → u.heap[g3]? = some (.cells #[.bool false, .int .i64 0, .int .i64 0, .int .u64 0, .int .u64 0] 29 (0, 0))) ∧ (b5 = true → u.heap[g3]? = some (.cells #[.bool y.2.2.2.2, .int .i64 y.1, .int .i64 y.2.1, .int .u64 (y.2.2.1 : Int), .int .u64 (y.2.2.2.1 : Int)] 29 (0, 0))) ∧ (b5 = true → b3 = true) ∧ (b2 = true → b3 = true → g2 ≠ g3)) ?start ?step ?fin
        case start => exact ⟨false, false, false, false, false, false, undef, undef, undef, undef, 0, 0, rfl, (by (try simp only [Act.put, List.setIfInBounds_toArray, List.set_cons_zero, List.set_cons_succ]); try rfl), Ok.draws (Ok.refl _) 1, (fun h => by cases h), (fun h => by cases h), (fun h => by cases h), (fun h => by cases h), (fun h => by cases h), (fun h => by cases h), (fun h => by cases h), (fun h => by cases h), (fun h => by cases h), (fun h => by cases h), (fun h => by cases h), (fun h => by cases h), (fun h => by cases h)⟩
        case step =>
          intro l fr u i o hI hi0 ho hd K hK
          obtain ⟨b0, b1, b2, b3, b4, b5, s127, s128, s18, s19, g2, g3, rfl, rfl, hO, q0, q1, p2, l2, q2, q4, m4, p3, l3, q3, q5, m5, d2_3⟩ := hI
          have hlt : i < 6 := (Array.getElem?_eq_some_iff.1 ho).1
          rcases (show i = 0 ∨ i = 1 ∨ i = 2 ∨ i = 3 ∨ i = 4 ∨ i = 5 by omega) with rfl | rfl | rfl | rfl | rfl | rfl
          · have ho2 := Option.some.inj ho
            subst ho2
            have f0 : b0 = false := hi0
            clear ho hlt hd hi0
            have zz := row5_facts (Ok.row' hO ra.out)
            have y0 := zz.1
            have y1 := zz.2.1
            have y2 := zz.2.2.1
            have y3 := zz.2.2.2.1
            have y4 := zz.2.2.2.2.1
            have y5 := zz.2.2.2.2.2.1
            have y6 := zz.2.2.2.2.2.2.1
            have y7 := zz.2.2.2.2.2.2.2.1
            have y8 := zz.2.2.2.2.2.2.2.2.1
            have y9 := zz.2.2.2.2.2.2.2.2.2
            clear zz
            (try simp only [Act.put, List.getElem_toArray, List.getElem_cons_succ, List.getElem_cons_zero, List.setIfInBounds_toArray, List.set_cons_zero, List.set_cons_succ])
            go_simp
            refine hK.out _ _ ?_
            exact ⟨true, b1, b2, b3, b4, b5, .agg #[.bool x.2.2.2.2, .int .i64 x.1, .int .i64 x.2.1, .int .u64 (x.2.2.1 : Int), .int .u64 (x.2.2.2.1 : Int)], s128, s18, s19, g2, g3, rfl, (by (try simp only [Act.put, List.setIfInBounds_toArray, List.set_cons_zero, List.set_cons_succ]); try rfl), hO, (fun _ => rfl), q1, p2, l2, q2, q4, m4, p3, l3, q3, q5, m5, d2_3⟩
          · have ho2 := Option.some.inj ho
            subst ho2
            have f1 : b1 = false := hi0
            clear ho hlt hd hi0
            have zz := row5_facts (Ok.row' hO rb.out)
            have y0 := zz.1
            have y1 := zz.2.1
            have y2 := zz.2.2.1
            have y3 := zz.2.2.2.1
            have y4 := zz.2.2.2.2.1
            have y5 := zz.2.2.2.2.2.1
            have y6 := zz.2.2.2.2.2.2.1
            have y7 := zz.2.2.2.2.2.2.2.1
            have y8 := zz.2.2.2.2.2.2.2.2.1
            have y9 := zz.2.2.2.2.2.2.2.2.2
            clear zz
            (try simp only [Act.put, List.getElem_toArray, List.getElem_cons_succ, List.getElem_cons_zero, List.setIfInBounds_toArray, List.set_cons_zero, List.set_cons_succ])
            go_simp
            refine hK.out _ _ ?_
            exact ⟨b0, true, b2, b3, b4, b5, s127, .agg #[.bool y.2.2.2.2, .int .i64 y.1, .int .i64 y.2.1, .int .u64 (y.2.2.1 : Int), .int .u64 (y.2.2.2.1 : Int)], s18, s19, g2, g3, rfl, (by (try simp only [Act.put, List.setIfInBounds_toArray, List.set_cons_zero, List.set_cons_succ]); try rfl), hO, q0, (fun _ => rfl), p2, l2, q2, q4, m4, p3, l3, q3, q5, m5, d2_3⟩
          · have ho2 := Option.some.inj ho
            subst ho2
            have f2 : b2 = false := hi0
            clear ho hlt hd hi0
            (try simp only [Act.put, List.getElem_toArray, List.getElem_cons_succ, List.getElem_cons_zero, List.setIfInBounds_toArray, List.set_cons_zero, List.set_cons_succ])
            go_simp
            refine hK.out _ _ ?_
            exact ⟨b0, b1, true, b3, b4, b5, s127, s128, .pointer (some ⟨u.heap.size, 0, none⟩), s19, u.heap.size, g3, rfl, (by (try simp only [Act.put, List.setIfInBounds_toArray, List.set_cons_zero, List.set_cons_succ]); try rfl), hO.alloc _, q0, q1, (fun _ => rfl), (fun _ => hO.le), (fun _ _ => heap_new0 _ _), (fun h => by rw [m4 h] at f2; cases f2), (fun _ => rfl), p3, l3, (fun h1 h2 => Ok.row' ((Ok.refl u).alloc _) (q3 h1 h2)), (fun h1 => Ok.row' ((Ok.refl u).alloc _) (q5 h1)), m5, (fun _ h => Ne.symm (by cases c : b5; exact Nat.ne_of_lt (lt_row (q3 h c)); exact Nat.ne_of_lt (lt_row (q5 c))))⟩
          · have ho2 := Option.some.inj ho
            subst ho2
            have f3 : b3 = false := hi0
            clear ho hlt hd hi0
            (try simp only [Act.put, List.getElem_toArray, List.getElem_cons_succ, List.getElem_cons_zero, List.setIfInBounds_toArray, List.set_cons_zero, List.set_cons_succ])
            go_simp
            refine hK.out _ _ ?_
            exact ⟨b0, b1, b2, true, b4, b5, s127, s128, s18, .pointer (some ⟨u.heap.size, 0, none⟩), g2, u.heap.size, rfl, (by (try simp only [Act.put, List.setIfInBounds_toArray, List.set_cons_zero, List.set_cons_succ]); try rfl), hO.alloc _, q0, q1, p2, l2, (fun h1 h2 => Ok.row' ((Ok.refl u).alloc _) (q2 h1 h2)), (fun h1 => Ok.row' ((Ok.refl u).alloc _) (q4 h1)), m4, (fun _ => rfl), (fun _ => hO.le), (fun _ _ => heap_new0 _ _), (fun h => by rw [m5 h] at f3; cases f3), (fun _ => rfl), (fun h _ => (by cases c : b4; exact Nat.ne_of_lt (lt_row (q2 h c)); exact Nat.ne_of_lt (lt_row (q4 c))))⟩
          · have ho2 := Option.some.inj ho
            subst ho2
            have f4 : b4 = false := hi0
            have t0 : b0 = true := hd ⟨0, .data⟩ (by simp) rfl
            have t2 : b2 = true := hd ⟨2, .data⟩ (by simp) rfl
            have t3 : b3 = true := hd ⟨3, .phase⟩ (by simp) rfl
            clear ho hlt hd hi0
            have e0 := q0 t0
            subst e0
            have e2 := p2 t2
            subst e2
            have e3 := p3 t3
            subst e3
            have rg := q2 t2 f4
            (try unfold nv)
            have zz := row5_facts (rg)
            have y0 := zz.1
            have y1 := zz.2.1
            have y2 := zz.2.2.1
            have y3 := zz.2.2.2.1
            have y4 := zz.2.2.2.2.1
            have y5 := zz.2.2.2.2.2.1
            have y6 := zz.2.2.2.2.2.2.1
            have y7 := zz.2.2.2.2.2.2.2.1
            have y8 := zz.2.2.2.2.2.2.2.2.1
            have y9 := zz.2.2.2.2.2.2.2.2.2
            clear zz
            (try simp only [Act.put, List.getElem_toArray, List.getElem_cons_succ, List.getElem_cons_zero, List.setIfInBounds_toArray, List.set_cons_zero, List.set_cons_succ])
            go_simp
            have hrp := rows_put1 (Z := (((((u.setCell ⟨g2, 0, none⟩ (.bool x.2.2.2.2)).setCell ⟨g2, 1, none⟩ (.int .i64 x.1)).setCell ⟨g2, 2, none⟩ (.int .i64 x.2.1)).setCell ⟨g2, 3, none⟩ (.int .u64 (x.2.2.1 : Int))).setCell ⟨g2, 4, none⟩ (.int .u64 (x.2.2.2.1 : Int)))) rg hO (l2 t2) _ _ _ _ _ rfl
            refine hK.out _ _ ?_
            exact ⟨b0, b1, b2, b3, true, b5, .agg #[.bool x.2.2.2.2, .int .i64 x.1, .int .i64 x.2.1, .int .u64 (x.2.2.1 : Int), .int .u64 (x.2.2.2.1 : Int)], s128, .pointer (some ⟨g2, 0, none⟩), .pointer (some ⟨g3, 0, none⟩), g2, g3, rfl, (by (try simp only [Act.put, List.setIfInBounds_toArray, List.set_cons_zero, List.set_cons_succ]); try rfl), hrp.out.1, q0, q1, (fun _ => rfl), l2, (fun _ h => by cases h), (fun _ => hrp.out.2.1), (fun _ => t2), (fun _ => rfl), l3, (fun h1 h2 => hrp.out.2.2 _ _ (d2_3 t2 t3).symm (q3 h1 h2)), (fun h1 => hrp.out.2.2 _ _ (d2_3 t2 t3).symm (q5 h1)), m5, d2_3⟩
          · have ho2 := Option.some.inj ho
            subst ho2
            have f5 : b5 = false := hi0
            have t1 : b1 = true := hd ⟨1, .data⟩ (by simp) rfl
            have t2 : b2 = true := hd ⟨2, .phase⟩ (by simp) rfl
            have t3 : b3 = true := hd ⟨3, .data⟩ (by simp) rfl
            clear ho hlt hd hi0
            have e1 := q1 t1
            subst e1
            have e2 := p2 t2
            subst e2
            have e3 := p3 t3
            subst e3
            have rg := q3 t3 f5
            (try unfold nv)
            have zz := row5_facts (rg)
            have y0 := zz.1
            have y1 := zz.2.1
            have y2 := zz.2.2.1
            have y3 := zz.2.2.2.1
            have y4 := zz.2.2.2.2.1
            have y5 := zz.2.2.2.2.2.1
            have y6 := zz.2.2.2.2.2.2.1
            have y7 := zz.2.2.2.2.2.2.2.1
            have y8 := zz.2.2.2.2.2.2.2.2.1
            have y9 := zz.2.2.2.2.2.2.2.2.2
            clear zz
            (try simp only [Act.put, List.getElem_toArray, List.getElem_cons_succ, List.getElem_cons_zero, List.setIfInBounds_toArray, List.set_cons_zero, List.set_cons_succ])
            go_simp
            have hrp := rows_put1 (Z := (((((u.setCell ⟨g3, 0, none⟩ (.bool y.2.2.2.2)).setCell ⟨g3, 1, none⟩ (.int .i64 y.1)).setCell ⟨g3, 2, none⟩ (.int .i64 y.2.1)).setCell ⟨g3, 3, none⟩ (.int .u64 (y.2.2.1 : Int))).setCell ⟨g3, 4, none⟩ (.int .u64 (y.2.2.2.1 : Int)))) rg hO (l3 t3) _ _ _ _ _ rfl
            refine hK.out _ _ ?_
            exact ⟨b0, b1, b2, b3, b4, true, s127, .agg #[.bool y.2.2.2.2, .int .i64 y.1, .int .i64 y.2.1, .int .u64 (y.2.2.1 : Int), .int .u64 (y.2.2.2.1 : Int)], .pointer (some ⟨g2, 0, none⟩), .pointer (some ⟨g3, 0, none⟩), g2, g3, rfl, (by (try simp only [Act.put, List.setIfInBounds_toArray, List.set_cons_zero, List.set_cons_succ]); try rfl), hrp.out.1, q0, q1, (fun _ => rfl), l2, (fun h1 h2 => hrp.out.2.2 _ _ (d2_3 t2 t3) (q2 h1 h2)), (fun h1 => hrp.out.2.2 _ _ (d2_3 t2 t3) (q4 h1)), m4, (fun _ => rfl), l3, (fun _ h => by cases h), (fun _ => hrp.out.2.1), (fun _ => t3), d2_3⟩
        case fin =>
          intro l fr V5 hI hr
          obtain ⟨b0, b1, b2, b3, b4, b5, s127, s128, s18, s19, g2, g3, rfl, rfl, hO, q0, q1, p2, l2, q2, q4, m4, p3, l3, q3, q5, m5, d2_3⟩ := hI
          have hall := all_listed (by kernel_rfl) rfl hr
          clear hr
          have t0 : b0 = true := hall 0 (by decide)
          have t1 : b1 = true := hall 1 (by decide)
          have t2 : b2 = true := hall 2 (by decide)
          have t3 : b3 = true := hall 3 (by decide)
          have t4 : b4 = true := hall 4 (by decide)
          have t5 : b5 = true := hall 5 (by decide)
          have e0 := q0 t0
          subst e0
          have e1 := q1 t1
          subst e1
          have e2 := p2 t2
          subst e2
          have r2 := q4 t4
          replace l2 := l2 t2
          have e3 := p3 t3
          subst e3
          have r3 := q5 t5
          replace l3 := l3 t3
          replace d2_3 := d2_3 t2 t3
          clear hall t0 t1 t2 t3 t4 t5 q0 q1 p2 q2 q4 m4 p3 q3 q5 m5
          (try simp only [Act.put, List.getElem_toArray, List.getElem_cons_succ, List.getElem_cons_zero, List.setIfInBounds_toArray, List.set_cons_zero, List.set_cons_succ])
          replace ra : Hid _ := Ok.row' hO ra.out
          replace rb : Hid _ := Ok.row' hO rb.out
          replace rp : Hid _ := Ok.row' hO rp.out
          replace rq : Hid _ := Ok.row' hO rq.out
          have HV5 : Hid (Ok w0 V5) := HZ.out.step hO
          have s1 : Hid _ := r2
          have s2 : Hid _ := r3
          have lz := hO.le
          skip
          have za := lt_row rZa.out
          have zb := lt_row rZb.out
          have zp := lt_row rZp.out
          have zq := lt_row rZq.out
          have ng2ga : ¬ g2 = ga := by omega
          have mg2ga : ¬ ga = g2 := by omega
          have ng2gb : ¬ g2 = gb := by omega
          have mg2gb : ¬ gb = g2 := by omega
          have ng2gp : ¬ g2 = gp := by omega
          have mg2gp : ¬ gp = g2 := by omega
          have ng2gq : ¬ g2 = gq := by omega
          have mg2gq : ¬ gq = g2 := by omega
          have ng3ga : ¬ g3 = ga := by omega
          have mg3ga : ¬ ga = g3 := by omega
          have ng3gb : ¬ g3 = gb := by omega
          have mg3gb : ¬ gb = g3 := by omega
          have ng3gp : ¬ g3 = gp := by omega
          have mg3gp : ¬ gp = g3 := by omega
          have ng3gq : ¬ g3 = gq := by omega
          have mg3gq : ¬ gq = g3 := by omega
          have n23 : ¬ g2 = g3 := d2_3
          have m23 : ¬ g3 = g2 := fun e => d2_3 e.symm
          have lg2 : w0.heap.size ≤ g2 := by have := HZ.out.le; omega
          have lg3 : w0.heap.size ≤ g3 := by have := HZ.out.le; omega
          clear hO r2 r3 l2 l3 d2_3 za zb zp zq lz rZa rZb rZp rZq
          obtain ⟨oy, hoy⟩ : ∃ t, oneN y = t := ⟨_, rfl⟩
          obtain ⟨ox, hox⟩ : ∃ t, oneN x = t := ⟨_, rfl⟩
          have HOY : Hid (oneN y = oy) := hoy
          have HOX : Hid (oneN x = ox) := hox
          have E2 : Hid (A = ansN (if oy = true then lesN x y.1 else x) (if ox = true then lesN y x.1 else y)) := by unfold Hid; rw [E0.out, ← hoy, ← hox]; rfl
          clear hoy hox E0
          obtain ⟨b0, b1, b2, b3, b4, b5, b6, b7, b8, b9⟩ := row5_facts rb.out
          go_wp2_with fail
          clear b0 b1 b2 b3 b4 b5 b6 b7 b8 b9
          refine (rone_any y V5 _ (Ok.refl _)).mono ?_
          rintro e v1 ⟨rfl, hb⟩
          rw [HOY.out]
          replace ra : Hid _ := Ok.row' hb ra.out
          replace rb : Hid _ := Ok.row' hb rb.out
          replace rp : Hid _ := Ok.row' hb rp.out
          replace rq : Hid _ := Ok.row' hb rq.out
          replace s1 : Hid _ := Ok.row' hb s1.out
          replace s2 : Hid _ := Ok.row' hb s2.out
          have Hv1 : Hid (Ok w0 v1) := HV5.out.step hb
          clear hb HV5
          cases oy
          · replace E2 : Hid (A = ansN x (if ox = true then lesN y x.1 else y)) := by unfold Hid; rw [E2.out, if_neg (by decide)]
            obtain ⟨a0, a1, a2, a3, a4, a5, a6, a7, a8, a9⟩ := row5_facts ra.out
            go_wp2_with fail
            clear a0 a1 a2 a3 a4 a5 a6 a7 a8 a9
            refine (rone_any x v1 _ (Ok.refl _)).mono ?_
            rintro e v2 ⟨rfl, hb⟩
            rw [HOX.out]
            replace ra : Hid _ := Ok.row' hb ra.out
            replace rb : Hid _ := Ok.row' hb rb.out
            replace rp : Hid _ := Ok.row' hb rp.out
            replace rq : Hid _ := Ok.row' hb rq.out
            replace s1 : Hid _ := Ok.row' hb s1.out
            replace s2 : Hid _ := Ok.row' hb s2.out
            have Hv2 : Hid (Ok w0 v2) := Hv1.out.step hb
            clear hb Hv1
            cases ox
            · obtain ⟨B, hB⟩ : ∃ t, ansN x y = t := ⟨_, rfl⟩
              have HB : Hid (ansN x y = B) := hB
              have E3 : Hid (A = B) := by unfold Hid; rw [← hB]; exact (E2.out.trans (by rw [if_neg (by decide)]))
              clear hB
              obtain ⟨a0, a1, a2, a3, a4, a5, a6, a7, a8, a9⟩ := row5_facts s1.out
              obtain ⟨b0, b1, b2, b3, b4, b5, b6, b7, b8, b9⟩ := row5_facts s2.out
              go_wp2_with fail
              clear a0 a1 a2 a3 a4 a5 a6 a7 a8 a9 b0 b1 b2 b3 b4 b5 b6 b7 b8 b9
              refine (rboth_any x y v2 _ (Ok.refl _)).mono ?_
              rintro e v9 ⟨rfl, hb⟩
              rw [HB.out]
              replace rp : Hid _ := Ok.row' hb rp.out
              replace rq : Hid _ := Ok.row' hb rq.out
              have Hv9 : Hid (Ok w0 v9) := Hv2.out.step hb
              clear hb
              unfold nv
              obtain ⟨k0, k1, k2, k3, k4, k5, k6, k7, k8, k9⟩ := row5_facts rp.out
              obtain ⟨j0, j1, j2, j3, j4, j5, j6, j7, j8, j9⟩ := row5_facts rq.out
              go_wp2_with fail
              obtain ⟨Y, hY⟩ : ∃ Z, Z = ((((((((((v9.setCell ⟨gp, 0, none⟩ (.bool B.1.2.2.2.2)).setCell ⟨gp, 1, none⟩ (.int .i64 B.1.1)).setCell ⟨gp, 2, none⟩ (.int .i64 B.1.2.1)).setCell ⟨gp, 3, none⟩ (.int .u64 (B.1.2.2.1 : Int))).setCell ⟨gp, 4, none⟩ (.int .u64 (B.1.2.2.2.1 : Int))).setCell ⟨gq, 0, none⟩ (.bool B.2.2.2.2.2)).setCell ⟨gq, 1, none⟩ (.int .i64 B.2.1)).setCell ⟨gq, 2, none⟩ (.int .i64 B.2.2.1)).setCell ⟨gq, 3, none⟩ (.int .u64 (B.2.2.2.1 : Int))).setCell ⟨gq, 4, none⟩ (.int .u64 (B.2.2.2.2.1 : Int))) := ⟨_, rfl⟩
              have hp := rows_putr ngpgq rp.out rq.out Hv9.out lgp lgq _ _ _ _ _ _ _ _ _ _ hY
              rw [← hY]
              clear hY
              refine bodyPost_ret (results_2ct rfl _ _ gp gq 29 #[_, _, _, _, _] #[_, _, _, _, _] (0, 0) _ rfl rfl hp.2.1 hp.2.2 Tryz.underlying29 rfl infoN infoN) rfl ?_
              exact ⟨(by rw [E3.out]; rfl), hp.1⟩
            · obtain ⟨r, hr⟩ : ∃ t, lesN y x.1 = t := ⟨_, rfl⟩
              have HRR : Hid (lesN y x.1 = r) := hr
              clear hr
              obtain ⟨a0, a1, a2, a3, a4, a5, a6, a7, a8, a9⟩ := row5_facts ra.out
              obtain ⟨b0, b1, b2, b3, b4, b5, b6, b7, b8, b9⟩ := row5_facts rb.out
              go_wp2_with fail
              clear a0 a1 a2 a3 a4 a5 a6 a7 a8 a9 b0 b1 b2 b3 b4 b5 b6 b7 b8 b9
              refine (rless_any y x.1 RY.out NY.out RX.out.1 v2 _ (Ok.refl _)).mono ?_
              rintro e v3 ⟨rfl, hb⟩
              rw [HRR.out]
              replace ra : Hid _ := Ok.row' hb ra.out
              replace rb : Hid _ := Ok.row' hb rb.out
              replace rp : Hid _ := Ok.row' hb rp.out
              replace rq : Hid _ := Ok.row' hb rq.out
              replace s1 : Hid _ := Ok.row' hb s1.out
              replace s2 : Hid _ := Ok.row' hb s2.out
              have Hv3 : Hid (Ok w0 v3) := Hv2.out.step hb
              clear hb Hv2
              unfold nv
              obtain ⟨k0, k1, k2, k3, k4, k5, k6, k7, k8, k9⟩ := row5_facts s2.out
              go_upto_region 28 with (fail)
              obtain ⟨Z3, hZ3⟩ : ∃ Z, Z = (((((v3.setCell ⟨g3, 0, none⟩ (.bool r.2.2.2.2)).setCell ⟨g3, 1, none⟩ (.int .i64 r.1)).setCell ⟨g3, 2, none⟩ (.int .i64 r.2.1)).setCell ⟨g3, 3, none⟩ (.int .u64 (r.2.2.1 : Int))).setCell ⟨g3, 4, none⟩ (.int .u64 (r.2.2.2.1 : Int))) := ⟨_, rfl⟩
              obtain ⟨HZ3, s2z, keep⟩ := (rows_put1 s2.out Hv3.out lg3 _ _ _ _ _ hZ3).out
              replace HZ3 : Hid (Ok w0 Z3) := HZ3
              replace s2z : Hid _ := s2z
              replace ra : Hid _ := keep _ _ (by omega) ra.out
              replace rb : Hid _ := keep _ _ (by omega) rb.out
              replace rp : Hid _ := keep _ _ (by omega) rp.out
              replace rq : Hid _ := keep _ _ (by omega) rq.out
              replace s1 : Hid _ := keep _ _ (by omega) s1.out
              rw [← hZ3]
              clear hZ3 keep s2
              clear k0 k1 k2 k3 k4 k5 k6 k7 k8 k9
              have s2 : Hid _ := s2z
              clear s2z
              obtain ⟨B, hB⟩ : ∃ t, ansN x r = t := ⟨_, rfl⟩
              have HB : Hid (ansN x r = B) := hB
              have E3 : Hid (A = B) := by unfold Hid; rw [← hB]; exact (E2.out.trans (by first | rw [if_pos rfl, HRR.out] | rw [if_pos trivial, HRR.out]))
              clear hB
              obtain ⟨a0, a1, a2, a3, a4, a5, a6, a7, a8, a9⟩ := row5_facts s1.out
              obtain ⟨b0, b1, b2, b3, b4, b5, b6, b7, b8, b9⟩ := row5_facts s2.out
              go_wp2_with fail
              clear a0 a1 a2 a3 a4 a5 a6 a7 a8 a9 b0 b1 b2 b3 b4 b5 b6 b7 b8 b9
              refine (rboth_any x r Z3 _ (Ok.refl _)).mono ?_
              rintro e v9 ⟨rfl, hb⟩
              rw [HB.out]
              replace rp : Hid _ := Ok.row' hb rp.out
              replace rq : Hid _ := Ok.row' hb rq.out
              have Hv9 : Hid (Ok w0 v9) := HZ3.out.step hb
              clear hb
              unfold nv
              obtain ⟨k0, k1, k2, k3, k4, k5, k6, k7, k8, k9⟩ := row5_facts rp.out
              obtain ⟨j0, j1, j2, j3, j4, j5, j6, j7, j8, j9⟩ := row5_facts rq.out
              go_wp2_with fail
              obtain ⟨Y, hY⟩ : ∃ Z, Z = ((((((((((v9.setCell ⟨gp, 0, none⟩ (.bool B.1.2.2.2.2)).setCell ⟨gp, 1, none⟩ (.int .i64 B.1.1)).setCell ⟨gp, 2, none⟩ (.int .i64 B.1.2.1)).setCell ⟨gp, 3, none⟩ (.int .u64 (B.1.2.2.1 : Int))).setCell ⟨gp, 4, none⟩ (.int .u64 (B.1.2.2.2.1 : Int))).setCell ⟨gq, 0, none⟩ (.bool B.2.2.2.2.2)).setCell ⟨gq, 1, none⟩ (.int .i64 B.2.1)).setCell ⟨gq, 2, none⟩ (.int .i64 B.2.2.1)).setCell ⟨gq, 3, none⟩ (.int .u64 (B.2.2.2.1 : Int))).setCell ⟨gq, 4, none⟩ (.int .u64 (B.2.2.2.2.1 : Int))) := ⟨_, rfl⟩
              have hp := rows_putr ngpgq rp.out rq.out Hv9.out lgp lgq _ _ _ _ _ _ _ _ _ _ hY
              rw [← hY]
              clear hY
              refine bodyPost_ret (results_2ct rfl _ _ gp gq 29 #[_, _, _, _, _] #[_, _, _, _, _] (0, 0) _ rfl rfl hp.2.1 hp.2.2 Tryz.underlying29 rfl infoN infoN) rfl ?_
              exact ⟨(by rw [E3.out]; rfl), hp.1⟩
          · obtain ⟨l, hl⟩ : ∃ t, lesN x y.1 = t := ⟨_, rfl⟩
            have HLL : Hid (lesN x y.1 = l) := hl
            replace E2 : Hid (A = ansN l (if ox = true then lesN y x.1 else y)) := by unfold Hid; rw [E2.out, if_pos rfl, hl]
            clear hl
            obtain ⟨a0, a1, a2, a3, a4, a5, a6, a7, a8, a9⟩ := row5_facts ra.out
            obtain ⟨b0, b1, b2, b3, b4, b5, b6, b7, b8, b9⟩ := row5_facts rb.out
            go_wp2_with fail
            clear a0 a1 a2 a3 a4 a5 a6 a7 a8 a9 b0 b1 b2 b3 b4 b5 b6 b7 b8 b9
            refine (rless_any x y.1 RX.out NX.out RY.out.1 v1 _ (Ok.refl _)).mono ?_
            rintro e v4 ⟨rfl, hb⟩
            rw [HLL.out]
            replace ra : Hid _ := Ok.row' hb ra.out
            replace rb : Hid _ := Ok.row' hb rb.out
            replace rp : Hid _ := Ok.row' hb rp.out
            replace rq : Hid _ := Ok.row' hb rq.out
            replace s1 : Hid _ := Ok.row' hb s1.out
            replace s2 : Hid _ := Ok.row' hb s2.out
            have Hv4 : Hid (Ok w0 v4) := Hv1.out.step hb
            clear hb Hv1
            unfold nv
            obtain ⟨k0, k1, k2, k3, k4, k5, k6, k7, k8, k9⟩ := row5_facts s1.out
            go_upto_region 26 with (fail)
            obtain ⟨Z2, hZ2⟩ : ∃ Z, Z = (((((v4.setCell ⟨g2, 0, none⟩ (.bool l.2.2.2.2)).setCell ⟨g2, 1, none⟩ (.int .i64 l.1)).setCell ⟨g2, 2, none⟩ (.int .i64 l.2.1)).setCell ⟨g2, 3, none⟩ (.int .u64 (l.2.2.1 : Int))).setCell ⟨g2, 4, none⟩ (.int .u64 (l.2.2.2.1 : Int))) := ⟨_, rfl⟩
            obtain ⟨HZ2, s1z, keep⟩ := (rows_put1 s1.out Hv4.out lg2 _ _ _ _ _ hZ2).out
            replace HZ2 : Hid (Ok w0 Z2) := HZ2
            replace s1z : Hid _ := s1z
            replace ra : Hid _ := keep _ _ (by omega) ra.out
            replace rb : Hid _ := keep _ _ (by omega) rb.out
            replace rp : Hid _ := keep _ _ (by omega) rp.out
            replace rq : Hid _ := keep _ _ (by omega) rq.out
            replace s2 : Hid _ := keep _ _ (by omega) s2.out
            rw [← hZ2]
            clear hZ2 keep s1
            clear k0 k1 k2 k3 k4 k5 k6 k7 k8 k9
            have s1 : Hid _ := s1z
            clear s1z
            obtain ⟨a0, a1, a2, a3, a4, a5, a6, a7, a8, a9⟩ := row5_facts ra.out
            go_wp2_with fail
            clear a0 a1 a2 a3 a4 a5 a6 a7 a8 a9
            refine (rone_any x Z2 _ (Ok.refl _)).mono ?_
            rintro e v2 ⟨rfl, hb⟩
            rw [HOX.out]
            replace ra : Hid _ := Ok.row' hb ra.out
            replace rb : Hid _ := Ok.row' hb rb.out
            replace rp : Hid _ := Ok.row' hb rp.out
            replace rq : Hid _ := Ok.row' hb rq.out
            replace s1 : Hid _ := Ok.row' hb s1.out
            replace s2 : Hid _ := Ok.row' hb s2.out
            have Hv2 : Hid (Ok w0 v2) := HZ2.out.step hb
            clear hb HZ2
            cases ox
            · obtain ⟨B, hB⟩ : ∃ t, ansN l y = t := ⟨_, rfl⟩
              have HB : Hid (ansN l y = B) := hB
              have E3 : Hid (A = B) := by unfold Hid; rw [← hB]; exact (E2.out.trans (by rw [if_neg (by decide)]))
              clear hB
              obtain ⟨a0, a1, a2, a3, a4, a5, a6, a7, a8, a9⟩ := row5_facts s1.out
              obtain ⟨b0, b1, b2, b3, b4, b5, b6, b7, b8, b9⟩ := row5_facts s2.out
              go_wp2_with fail
              clear a0 a1 a2 a3 a4 a5 a6 a7 a8 a9 b0 b1 b2 b3 b4 b5 b6 b7 b8 b9
              refine (rboth_any l y v2 _ (Ok.refl _)).mono ?_
              rintro e v9 ⟨rfl, hb⟩
              rw [HB.out]
              replace rp : Hid _ := Ok.row' hb rp.out
              replace rq : Hid _ := Ok.row' hb rq.out
              have Hv9 : Hid (Ok w0 v9) := Hv2.out.step hb
              clear hb
              unfold nv
              obtain ⟨k0, k1, k2, k3, k4, k5, k6, k7, k8, k9⟩ := row5_facts rp.out
              obtain ⟨j0, j1, j2, j3, j4, j5, j6, j7, j8, j9⟩ := row5_facts rq.out
              go_wp2_with fail
              obtain ⟨Y, hY⟩ : ∃ Z, Z = ((((((((((v9.setCell ⟨gp, 0, none⟩ (.bool B.1.2.2.2.2)).setCell ⟨gp, 1, none⟩ (.int .i64 B.1.1)).setCell ⟨gp, 2, none⟩ (.int .i64 B.1.2.1)).setCell ⟨gp, 3, none⟩ (.int .u64 (B.1.2.2.1 : Int))).setCell ⟨gp, 4, none⟩ (.int .u64 (B.1.2.2.2.1 : Int))).setCell ⟨gq, 0, none⟩ (.bool B.2.2.2.2.2)).setCell ⟨gq, 1, none⟩ (.int .i64 B.2.1)).setCell ⟨gq, 2, none⟩ (.int .i64 B.2.2.1)).setCell ⟨gq, 3, none⟩ (.int .u64 (B.2.2.2.1 : Int))).setCell ⟨gq, 4, none⟩ (.int .u64 (B.2.2.2.2.1 : Int))) := ⟨_, rfl⟩
              have hp := rows_putr ngpgq rp.out rq.out Hv9.out lgp lgq _ _ _ _ _ _ _ _ _ _ hY
              rw [← hY]
              clear hY
              refine bodyPost_ret (results_2ct rfl _ _ gp gq 29 #[_, _, _, _, _] #[_, _, _, _, _] (0, 0) _ rfl rfl hp.2.1 hp.2.2 Tryz.underlying29 rfl infoN infoN) rfl ?_
              exact ⟨(by rw [E3.out]; rfl), hp.1⟩
            · obtain ⟨r, hr⟩ : ∃ t, lesN y x.1 = t := ⟨_, rfl⟩
              have HRR : Hid (lesN y x.1 = r) := hr
              clear hr
              obtain ⟨a0, a1, a2, a3, a4, a5, a6, a7, a8, a9⟩ := row5_facts ra.out
              obtain ⟨b0, b1, b2, b3, b4, b5, b6, b7, b8, b9⟩ := row5_facts rb.out
              go_wp2_with fail
              clear a0 a1 a2 a3 a4 a5 a6 a7 a8 a9 b0 b1 b2 b3 b4 b5 b6 b7 b8 b9
              refine (rless_any y x.1 RY.out NY.out RX.out.1 v2 _ (Ok.refl _)).mono ?_
              rintro e v3 ⟨rfl, hb⟩
              rw [HRR.out]
              replace ra : Hid _ := Ok.row' hb ra.out
              replace rb : Hid _ := Ok.row' hb rb.out
              replace rp : Hid _ := Ok.row' hb rp.out
              replace rq : Hid _ := Ok.row' hb rq.out
              replace s1 : Hid _ := Ok.row' hb s1.out
              replace s2 : Hid _ := Ok.row' hb s2.out
              have Hv3 : Hid (Ok w0 v3) := Hv2.out.step hb
              clear hb Hv2
              unfold nv
              obtain ⟨k0, k1, k2, k3, k4, k5, k6, k7, k8, k9⟩ := row5_facts s2.out
              go_upto_region 28 with (fail)
              obtain ⟨Z3, hZ3⟩ : ∃ Z, Z = (((((v3.setCell ⟨g3, 0, none⟩ (.bool r.2.2.2.2)).setCell ⟨g3, 1, none⟩ (.int .i64 r.1)).setCell ⟨g3, 2, none⟩ (.int .i64 r.2.1)).setCell ⟨g3, 3, none⟩ (.int .u64 (r.2.2.1 : Int))).setCell ⟨g3, 4, none⟩ (.int .u64 (r.2.2.2.1 : Int))) := ⟨_, rfl⟩
              obtain ⟨HZ3, s2z, keep⟩ := (rows_put1 s2.out Hv3.out lg3 _ _ _ _ _ hZ3).out
              replace HZ3 : Hid (Ok w0 Z3) := HZ3
              replace s2z : Hid _ := s2z
              replace ra : Hid _ := keep _ _ (by omega) ra.out
              replace rb : Hid _ := keep _ _ (by omega) rb.out
              replace rp : Hid _ := keep _ _ (by omega) rp.out
              replace rq : Hid _ := keep _ _ (by omega) rq.out
              replace s1 : Hid _ := keep _ _ (by omega) s1.out
              rw [← hZ3]
              clear hZ3 keep s2
              clear k0 k1 k2 k3 k4 k5 k6 k7 k8 k9
              have s2 : Hid _ := s2z
              clear s2z
              obtain ⟨B, hB⟩ : ∃ t, ansN l r = t := ⟨_, rfl⟩
              have HB : Hid (ansN l r = B) := hB
              have E3 : Hid (A = B) := by unfold Hid; rw [← hB]; exact (E2.out.trans (by first | rw [if_pos rfl, HRR.out] | rw [if_pos trivial, HRR.out]))
              clear hB
              obtain ⟨a0, a1, a2, a3, a4, a5, a6, a7, a8, a9⟩ := row5_facts s1.out
              obtain ⟨b0, b1, b2, b3, b4, b5, b6, b7, b8, b9⟩ := row5_facts s2.out
              go_wp2_with fail
              clear a0 a1 a2 a3 a4 a5 a6 a7 a8 a9 b0 b1 b2 b3 b4 b5 b6 b7 b8 b9
              refine (rboth_any l r Z3 _ (Ok.refl _)).mono ?_
              rintro e v9 ⟨rfl, hb⟩
              rw [HB.out]
              replace rp : Hid _ := Ok.row' hb rp.out
              replace rq : Hid _ := Ok.row' hb rq.out
              have Hv9 : Hid (Ok w0 v9) := HZ3.out.step hb
              clear hb
              unfold nv
              obtain ⟨k0, k1, k2, k3, k4, k5, k6, k7, k8, k9⟩ := row5_facts rp.out
              obtain ⟨j0, j1, j2, j3, j4, j5, j6, j7, j8, j9⟩ := row5_facts rq.out
              go_wp2_with fail
              obtain ⟨Y, hY⟩ : ∃ Z, Z = ((((((((((v9.setCell ⟨gp, 0, none⟩ (.bool B.1.2.2.2.2)).setCell ⟨gp, 1, none⟩ (.int .i64 B.1.1)).setCell ⟨gp, 2, none⟩ (.int .i64 B.1.2.1)).setCell ⟨gp, 3, none⟩ (.int .u64 (B.1.2.2.1 : Int))).setCell ⟨gp, 4, none⟩ (.int .u64 (B.1.2.2.2.1 : Int))).setCell ⟨gq, 0, none⟩ (.bool B.2.2.2.2.2)).setCell ⟨gq, 1, none⟩ (.int .i64 B.2.1)).setCell ⟨gq, 2, none⟩ (.int .i64 B.2.2.1)).setCell ⟨gq, 3, none⟩ (.int .u64 (B.2.2.2.1 : Int))).setCell ⟨gq, 4, none⟩ (.int .u64 (B.2.2.2.2.1 : Int))) := ⟨_, rfl⟩
              have hp := rows_putr ngpgq rp.out rq.out Hv9.out lgp lgq _ _ _ _ _ _ _ _ _ _ hY
              rw [← hY]
              clear hY
              refine bodyPost_ret (results_2ct rfl _ _ gp gq 29 #[_, _, _, _, _] #[_, _, _, _, _] (0, 0) _ rfl rfl hp.2.1 hp.2.2 Tryz.underlying29 rfl infoN infoN) rfl ?_
              exact ⟨(by rw [E3.out]; rfl), hp.1⟩
    · have E0 : Hid (A = (botN, botN)) := by unfold Hid; rw [HA.out]; unfold cmpA; rw [if_pos (Or.inr HYB.out)]
      go_wp2_with fail
      refine (rbot_any w3 _ (Ok.refl _)).mono ?_
      rintro e x1 ⟨rfl, hb⟩
      replace rp : Hid _ := Ok.row' hb rp.out
      replace rq : Hid _ := Ok.row' hb rq.out
      have Hx1 : Hid (Ok w0 x1) := Hw3.out.step hb
      clear hb
      unfold nv botN
      go_wp2_with fail
      refine (rbot_any x1 _ (Ok.refl _)).mono ?_
      rintro e x2 ⟨rfl, hb⟩
      replace rp : Hid _ := Ok.row' hb rp.out
      replace rq : Hid _ := Ok.row' hb rq.out
      have Hx2 : Hid (Ok w0 x2) := Hx1.out.step hb
      clear hb
      unfold nv botN
      obtain ⟨k0, k1, k2, k3, k4, k5, k6, k7, k8, k9⟩ := row5_facts rp.out
      obtain ⟨j0, j1, j2, j3, j4, j5, j6, j7, j8, j9⟩ := row5_facts rq.out
      go_wp2_with fail
      obtain ⟨Y, hY⟩ : ∃ Z, Z = ((((((((((x2.setCell ⟨gp, 0, none⟩ (.bool true)).setCell ⟨gp, 1, none⟩ (.int .i64 0)).setCell ⟨gp, 2, none⟩ (.int .i64 0)).setCell ⟨gp, 3, none⟩ (.int .u64 0)).setCell ⟨gp, 4, none⟩ (.int .u64 0)).setCell ⟨gq, 0, none⟩ (.bool true)).setCell ⟨gq, 1, none⟩ (.int .i64 0)).setCell ⟨gq, 2, none⟩ (.int .i64 0)).setCell ⟨gq, 3, none⟩ (.int .u64 0)).setCell ⟨gq, 4, none⟩ (.int .u64 0)) := ⟨_, rfl⟩
      have hp := rows_putr ngpgq rp.out rq.out Hx2.out lgp lgq _ _ _ _ _ _ _ _ _ _ hY
      rw [← hY]
      clear hY
      refine bodyPost_ret (results_2ct rfl _ _ gp gq 29 #[_, _, _, _, _] #[_, _, _, _, _] (0, 0) _ rfl rfl hp.2.1 hp.2.2 Tryz.underlying29 rfl infoN infoN) rfl ?_
      exact ⟨(by rw [E0.out]; rfl), hp.1⟩
  · have E0 : Hid (A = (botN, botN)) := by unfold Hid; rw [HA.out]; unfold cmpA; rw [if_pos (Or.inl HXB.out)]
    go_wp2_with fail
    refine (rbot_any w2 _ (Ok.refl _)).mono ?_
    rintro e x1 ⟨rfl, hb⟩
    replace rp : Hid _ := Ok.row' hb rp.out
    replace rq : Hid _ := Ok.row' hb rq.out
    have Hx1 : Hid (Ok w0 x1) := Hw2.out.step hb
    clear hb
    unfold nv botN
    go_wp2_with fail
    refine (rbot_any x1 _ (Ok.refl _)).mono ?_
    rintro e x2 ⟨rfl, hb⟩
    replace rp : Hid _ := Ok.row' hb rp.out
    replace rq : Hid _ := Ok.row' hb rq.out
    have Hx2 : Hid (Ok w0 x2) := Hx1.out.step hb
    clear hb
    unfold nv botN
    obtain ⟨k0, k1, k2, k3, k4, k5, k6, k7, k8, k9⟩ := row5_facts rp.out
    obtain ⟨j0, j1, j2, j3, j4, j5, j6, j7, j8, j9⟩ := row5_facts rq.out
    go_wp2_with fail
    obtain ⟨Y, hY⟩ : ∃ Z, Z = ((((((((((x2.setCell ⟨gp, 0, none⟩ (.bool true)).setCell ⟨gp, 1, none⟩ (.int .i64 0)).setCell ⟨gp, 2, none⟩ (.int .i64 0)).setCell ⟨gp, 3, none⟩ (.int .u64 0)).setCell ⟨gp, 4, none⟩ (.int .u64 0)).setCell ⟨gq, 0, none⟩ (.bool true)).setCell ⟨gq, 1, none⟩ (.int .i64 0)).setCell ⟨gq, 2, none⟩ (.int .i64 0)).setCell ⟨gq, 3, none⟩ (.int .u64 0)).setCell ⟨gq, 4, none⟩ (.int .u64 0)) := ⟨_, rfl⟩
    have hp := rows_putr ngpgq rp.out rq.out Hx2.out lgp lgq _ _ _ _ _ _ _ _ _ _ hY
    rw [← hY]
    clear hY
    refine bodyPost_ret (results_2ct rfl _ _ gp gq 29 #[_, _, _, _, _] #[_, _, _, _, _] (0, 0) _ rfl rfl hp.2.1 hp.2.2 Tryz.underlying29 rfl infoN infoN) rfl ?_
    exact ⟨(by rw [E0.out]; rfl), hp.1⟩
end Go.Proofs.YtbkblijoimmdeaaGreat
