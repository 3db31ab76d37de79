import Derived.Test.YtbkblijoimmdeaaGreatKVx
import Derived.Deep.Cut
import Derived.Deep.CutRange
import Derived.Deep.RegionWith
import Derived.Deep.RegionHeld3
set_option linter.unusedVariables false
set_option linter.unusedSimpArgs false
set_option linter.unnecessarySimpa false
/- The document's Compare (winnowref14). -/
namespace Go.Proofs.YtbkblijoimmdeaaGreat
open Go.RowKit Go.Shelf
set_option maxRecDepth 100000 in
set_option maxHeartbeats 8000000 in
theorem rCmp8 (a b : Int × Int × Nat × Nat × Bool) (ha : RawN a) (hb : RawN b) (w0 w : World) (hok : Ok w0 w) :
    Calls Tryz.prog 5 #[.int .i64 8, nv a, nv b] w fun e w' => e = .returned (.tuple #[nv (cmpA 8 (normN a) (normN b)).1, nv (cmpA 8 (normN a) (normN b)).2, .int .i64 0]) ∧ Ok w0 w' := by
  have hle := hok.le
  have HU : Hid (RawN a ∧ RawN b) := ⟨ha, hb⟩
  clear ha hb
  obtain ⟨x, hx⟩ : ∃ t, t = normN a := ⟨_, rfl⟩
  obtain ⟨y, hy⟩ : ∃ t, t = normN b := ⟨_, rfl⟩
  rw [← hx, ← hy]
  have HX : Hid _ := hx
  have HY : Hid _ := hy
  have RX : Hid (RawN x) := by unfold Hid; rw [hx]; exact normN_raw HU.out.1
  have RY : Hid (RawN y) := by unfold Hid; rw [hy]; exact normN_raw HU.out.2
  have NX : Hid (NormN x) := by unfold Hid; rw [hx]; exact normN_norm HU.out.1
  have NY : Hid (NormN y) := by unfold Hid; rw [hy]; exact normN_norm HU.out.2
  clear hx hy
  obtain ⟨A, hA⟩ : ∃ t, t = cmpA 8 x y := ⟨_, rfl⟩
  rw [← hA]
  have HA : Hid _ := hA
  clear hA
  obtain ⟨xb, hxb⟩ : ∃ t, t = x.2.2.2.2 := ⟨_, rfl⟩
  obtain ⟨yb, hyb⟩ : ∃ t, t = y.2.2.2.2 := ⟨_, rfl⟩
  have HXB : Hid (x.2.2.2.2 = xb) := hxb.symm
  have HYB : Hid (y.2.2.2.2 = yb) := hyb.symm
  clear hxb hyb
  unfold nv
  go_enter Tryz.func5, Tryz.ntmps5
  go_wp2_with fail
  obtain ⟨W, hW⟩ : ∃ W, W = ((((w).alloc (.cells #[.bool a.2.2.2.2, .int .i64 a.1, .int .i64 a.2.1, .int .u64 (a.2.2.1 : Int), .int .u64 (a.2.2.2.1 : Int)] 29)).alloc (.cells #[.bool b.2.2.2.2, .int .i64 b.1, .int .i64 b.2.1, .int .u64 (b.2.2.1 : Int), .int .u64 (b.2.2.2.1 : Int)] 29)).alloc (.cells #[.bool false, .int .i64 0, .int .i64 0, .int .u64 0, .int .u64 0] 29)).alloc (.cells #[.bool false, .int .i64 0, .int .i64 0, .int .u64 0, .int .u64 0] 29) := ⟨_, rfl⟩
  have ra : Hid (W.heap[w.heap.size]? = some (.cells #[.bool a.2.2.2.2, .int .i64 a.1, .int .i64 a.2.1, .int .u64 (a.2.2.1 : Int), .int .u64 (a.2.2.2.1 : Int)] 29)) := by unfold Hid; rw [hW]; exact (by repeat (first | (refine heap_at _ _ _ ?hx; case hx => (first | (simp; done) | (simp; omega))) | (refine heap_past _ _ _ ?hy ?_; case hy => (first | (simp; done) | (simp; omega))) | fail))
  have rb : Hid (W.heap[w.heap.size + 1]? = some (.cells #[.bool b.2.2.2.2, .int .i64 b.1, .int .i64 b.2.1, .int .u64 (b.2.2.1 : Int), .int .u64 (b.2.2.2.1 : Int)] 29)) := by unfold Hid; rw [hW]; exact (by repeat (first | (refine heap_at _ _ _ ?hx; case hx => (first | (simp; done) | (simp; omega))) | (refine heap_past _ _ _ ?hy ?_; case hy => (first | (simp; done) | (simp; omega))) | fail))
  have rp : Hid (W.heap[w.heap.size + 1 + 1]? = some (.cells #[.bool false, .int .i64 0, .int .i64 0, .int .u64 0, .int .u64 0] 29)) := by unfold Hid; rw [hW]; exact (by repeat (first | (refine heap_at _ _ _ ?hx; case hx => (first | (simp; done) | (simp; omega))) | (refine heap_past _ _ _ ?hy ?_; case hy => (first | (simp; done) | (simp; omega))) | fail))
  have rq : Hid (W.heap[w.heap.size + 1 + 1 + 1]? = some (.cells #[.bool false, .int .i64 0, .int .i64 0, .int .u64 0, .int .u64 0] 29)) := by unfold Hid; rw [hW]; exact (by repeat (first | (refine heap_at _ _ _ ?hx; case hx => (first | (simp; done) | (simp; omega))) | (refine heap_past _ _ _ ?hy ?_; case hy => (first | (simp; done) | (simp; omega))) | fail))
  have HW : Hid (Ok w0 W) := by unfold Hid; rw [hW]; exact (by repeat (first | exact hok | refine Ok.alloc ?_ _ | refine Ok.draws ?_ _ | fail))
  rw [← hW]
  clear hW
  obtain ⟨gq, egq⟩ : ∃ g, g = w.heap.size + 1 + 1 + 1 := ⟨_, rfl⟩
  rw [← egq] at rq ⊢
  obtain ⟨gp, egp⟩ : ∃ g, g = w.heap.size + 1 + 1 := ⟨_, rfl⟩
  rw [← egp] at rp ⊢
  obtain ⟨gb, egb⟩ : ∃ g, g = w.heap.size + 1 := ⟨_, rfl⟩
  rw [← egb] at rb ⊢
  obtain ⟨ga, ega⟩ : ∃ g, g = w.heap.size := ⟨_, rfl⟩
  rw [← ega] at ra ⊢
  have lga : w0.heap.size ≤ ga := by omega
  have ngagb : ¬ ga = gb := by omega
  have ngagp : ¬ ga = gp := by omega
  have ngagq : ¬ ga = gq := by omega
  have lgb : w0.heap.size ≤ gb := by omega
  have ngbga : ¬ gb = ga := by omega
  have ngbgp : ¬ gb = gp := by omega
  have ngbgq : ¬ gb = gq := by omega
  have lgp : w0.heap.size ≤ gp := by omega
  have ngpga : ¬ gp = ga := by omega
  have ngpgb : ¬ gp = gb := by omega
  have ngpgq : ¬ gp = gq := by omega
  have lgq : w0.heap.size ≤ gq := by omega
  have ngqga : ¬ gq = ga := by omega
  have ngqgb : ¬ gq = gb := by omega
  have ngqgp : ¬ gq = gp := by omega
  clear ega egb egp egq
  refine (rNegate_any 8 (Or.inl rfl) W _ (by repeat (first | exact Ok.refl _ | refine Ok.alloc ?_ _ | refine Ok.draws ?_ _ | fail))).mono ?_
  rintro e w1 ⟨rfl, hb⟩
  replace ra : Hid _ := Ok.row' hb ra.out
  replace rb : Hid _ := Ok.row' hb rb.out
  replace rp : Hid _ := Ok.row' hb rp.out
  replace rq : Hid _ := Ok.row' hb rq.out
  have Hw1 : Hid (Ok w0 w1) := HW.out.step hb
  clear hb
  obtain ⟨a0, a1, a2, a3, a4, a5, a6, a7, a8, a9⟩ := row5_facts ra.out
  go_wp2_with fail
  clear a0 a1 a2 a3 a4 a5 a6 a7 a8 a9
  refine (rbot14_any a HU.out.1 w1 _ (by repeat (first | exact Ok.refl _ | refine Ok.alloc ?_ _ | refine Ok.draws ?_ _ | fail))).mono ?_
  rintro e w2 ⟨rfl, hb⟩
  replace ra : Hid _ := Ok.row' hb ra.out
  replace rb : Hid _ := Ok.row' hb rb.out
  replace rp : Hid _ := Ok.row' hb rp.out
  replace rq : Hid _ := Ok.row' hb rq.out
  have Hw2 : Hid (Ok w0 w2) := Hw1.out.step hb
  clear hb
  rw [← HX.out, HXB.out]
  cases xb
  · obtain ⟨b0, b1, b2, b3, b4, b5, b6, b7, b8, b9⟩ := row5_facts rb.out
    go_wp2_with fail
    clear b0 b1 b2 b3 b4 b5 b6 b7 b8 b9
    refine (rbot14_any b HU.out.2 w2 _ (by repeat (first | exact Ok.refl _ | refine Ok.alloc ?_ _ | refine Ok.draws ?_ _ | fail))).mono ?_
    rintro e w3 ⟨rfl, hb⟩
    replace ra : Hid _ := Ok.row' hb ra.out
    replace rb : Hid _ := Ok.row' hb rb.out
    replace rp : Hid _ := Ok.row' hb rp.out
    replace rq : Hid _ := Ok.row' hb rq.out
    have Hw3 : Hid (Ok w0 w3) := Hw2.out.step hb
    clear hb
    rw [← HY.out, HYB.out]
    cases yb
    · have E0 : Hid (A = ansN (compN 8 x y).1 (compN 8 x y).2) := by unfold Hid; rw [HA.out]; unfold cmpA; rw [if_neg (by rw [HXB.out, HYB.out]; simp)]
      clear HA
      go_wp2_with fail
      obtain ⟨V, eV⟩ : ∃ t, t = w3 := ⟨_, rfl⟩
      rw [← eV] at ra rb rp rq Hw3 ⊢
      have HV : Hid (Ok w0 V) := Hw3
      clear eV Hw3
      apply wp_cutN (fun w1 => Hid (Ok w0 w1 ∧ w1.heap[ga]? = some (.cells #[.bool x.2.2.2.2, .int .i64 x.1, .int .i64 x.2.1, .int .u64 (x.2.2.1 : Int), .int .u64 (x.2.2.2.1 : Int)] 29) ∧ w1.heap[gb]? = some (.cells #[.bool y.2.2.2.2, .int .i64 y.1, .int .i64 y.2.1, .int .u64 (y.2.2.1 : Int), .int .u64 (y.2.2.2.1 : Int)] 29) ∧ (∀ (h : Nat) (o : Obj), h ≠ ga → h ≠ gb → V.heap[h]? = some o → w1.heap[h]? = some o)))
      case h1 =>
        obtain ⟨a0, a1, a2, a3, a4, a5, a6, a7, a8, a9⟩ := row5_facts ra.out
        obtain ⟨b0, b1, b2, b3, b4, b5, b6, b7, b8, b9⟩ := row5_facts rb.out
        have bz : Ok V V := Ok.refl _
        go_region_with (go_at_call 14; refine (rnorm_any _ (by first | exact HU.out.1 | exact HU.out.2) V _ (by first | assumption | exact Below.drew (by assumption))).mono ?_; rintro e w1 ⟨rfl, hb⟩; (first | rw [← HX.out] | rw [← HY.out]); unfold nv; obtain ⟨a0, a1, a2, a3, a4, a5, a6, a7, a8, a9⟩ := row5_facts (Ok.row' hb ra.out); obtain ⟨b0, b1, b2, b3, b4, b5, b6, b7, b8, b9⟩ := row5_facts (Ok.row' hb rb.out))
        all_goals exact ⟨rfl, rows_put2 (by omega) ra.out rb.out hb HV.out (by omega) (by omega) _ _ _ _ _ _ _ _ _ _⟩
      case h2 =>
        rintro Z H
        obtain ⟨HZ, raz, rbz, keep⟩ := H.out
        replace HZ : Hid (Ok w0 Z) := HZ
        replace raz : Hid _ := raz
        replace rbz : Hid _ := rbz
        replace rp : Hid _ := keep _ _ (by omega) (by omega) rp.out
        replace rq : Hid _ := keep _ _ (by omega) (by omega) rq.out
        clear H ra rb keep
        have ra : Hid _ := raz
        have rb : Hid _ := rbz
        clear raz rbz
        by_cases h1 : y.2.1 = -9223372036854775808
        · have E1 : Hid (A = (botN, botN)) := by unfold Hid; rw [E0.out]; exact lt_ends RX.out RY.out (Or.inl h1)
          have d1 : (y.2.1 == -9223372036854775808) = true := by simpa using h1
          clear h1
          obtain ⟨a0, a1, a2, a3, a4, a5, a6, a7, a8, a9⟩ := row5_facts ra.out
          obtain ⟨b0, b1, b2, b3, b4, b5, b6, b7, b8, b9⟩ := row5_facts rb.out
          go_wp2_with fail
          clear a0 a1 a2 a3 a4 a5 a6 a7 a8 a9 b0 b1 b2 b3 b4 b5 b6 b7 b8 b9
          refine (rbot_any Z _ (Ok.refl _)).mono ?_
          rintro e x1 ⟨rfl, hb⟩
          replace rp : Hid _ := Ok.row' hb rp.out
          replace rq : Hid _ := Ok.row' hb rq.out
          have Hx1 : Hid (Ok w0 x1) := HZ.out.step hb
          clear hb
          unfold nv botN
          go_wp2_with fail
          refine (rbot_any x1 _ (Ok.refl _)).mono ?_
          rintro e x2 ⟨rfl, hb⟩
          replace rp : Hid _ := Ok.row' hb rp.out
          replace rq : Hid _ := Ok.row' hb rq.out
          have Hx2 : Hid (Ok w0 x2) := Hx1.out.step hb
          clear hb
          unfold nv botN
          obtain ⟨k0, k1, k2, k3, k4, k5, k6, k7, k8, k9⟩ := row5_facts rp.out
          obtain ⟨j0, j1, j2, j3, j4, j5, j6, j7, j8, j9⟩ := row5_facts rq.out
          go_wp2_with fail
          obtain ⟨Y, hY⟩ : ∃ Z, Z = ((((((((((x2.setCell ⟨gp, 0, none⟩ (.bool true)).setCell ⟨gp, 1, none⟩ (.int .i64 0)).setCell ⟨gp, 2, none⟩ (.int .i64 0)).setCell ⟨gp, 3, none⟩ (.int .u64 0)).setCell ⟨gp, 4, none⟩ (.int .u64 0)).setCell ⟨gq, 0, none⟩ (.bool true)).setCell ⟨gq, 1, none⟩ (.int .i64 0)).setCell ⟨gq, 2, none⟩ (.int .i64 0)).setCell ⟨gq, 3, none⟩ (.int .u64 0)).setCell ⟨gq, 4, none⟩ (.int .u64 0)) := ⟨_, rfl⟩
          have hp := rows_putr ngpgq rp.out rq.out Hx2.out lgp lgq _ _ _ _ _ _ _ _ _ _ hY
          rw [← hY]
          clear hY
          refine bodyPost_ret (results_2ct rfl _ _ gp gq 29 #[_, _, _, _, _] #[_, _, _, _, _] (0, 0) _ rfl rfl hp.2.1 hp.2.2 Tryz.underlying29 rfl infoN infoN) rfl ?_
          exact ⟨(by rw [E1.out]; rfl), hp.1⟩
        · have d1 : (y.2.1 == -9223372036854775808) = false := by simpa using h1
          by_cases h2 : x.1 = 9223372036854775807
          · have E1 : Hid (A = (botN, botN)) := by unfold Hid; rw [E0.out]; exact lt_ends RX.out RY.out (Or.inr h2)
            have d2 : (x.1 == 9223372036854775807) = true := by simpa using h2
            clear h1 h2
            obtain ⟨a0, a1, a2, a3, a4, a5, a6, a7, a8, a9⟩ := row5_facts ra.out
            obtain ⟨b0, b1, b2, b3, b4, b5, b6, b7, b8, b9⟩ := row5_facts rb.out
            go_wp2_with fail
            clear a0 a1 a2 a3 a4 a5 a6 a7 a8 a9 b0 b1 b2 b3 b4 b5 b6 b7 b8 b9
            refine (rbot_any Z _ (Ok.refl _)).mono ?_
            rintro e x1 ⟨rfl, hb⟩
            replace rp : Hid _ := Ok.row' hb rp.out
            replace rq : Hid _ := Ok.row' hb rq.out
            have Hx1 : Hid (Ok w0 x1) := HZ.out.step hb
            clear hb
            unfold nv botN
            go_wp2_with fail
            refine (rbot_any x1 _ (Ok.refl _)).mono ?_
            rintro e x2 ⟨rfl, hb⟩
            replace rp : Hid _ := Ok.row' hb rp.out
            replace rq : Hid _ := Ok.row' hb rq.out
            have Hx2 : Hid (Ok w0 x2) := Hx1.out.step hb
            clear hb
            unfold nv botN
            obtain ⟨k0, k1, k2, k3, k4, k5, k6, k7, k8, k9⟩ := row5_facts rp.out
            obtain ⟨j0, j1, j2, j3, j4, j5, j6, j7, j8, j9⟩ := row5_facts rq.out
            go_wp2_with fail
            obtain ⟨Y, hY⟩ : ∃ Z, Z = ((((((((((x2.setCell ⟨gp, 0, none⟩ (.bool true)).setCell ⟨gp, 1, none⟩ (.int .i64 0)).setCell ⟨gp, 2, none⟩ (.int .i64 0)).setCell ⟨gp, 3, none⟩ (.int .u64 0)).setCell ⟨gp, 4, none⟩ (.int .u64 0)).setCell ⟨gq, 0, none⟩ (.bool true)).setCell ⟨gq, 1, none⟩ (.int .i64 0)).setCell ⟨gq, 2, none⟩ (.int .i64 0)).setCell ⟨gq, 3, none⟩ (.int .u64 0)).setCell ⟨gq, 4, none⟩ (.int .u64 0)) := ⟨_, rfl⟩
            have hp := rows_putr ngpgq rp.out rq.out Hx2.out lgp lgq _ _ _ _ _ _ _ _ _ _ hY
            rw [← hY]
            clear hY
            refine bodyPost_ret (results_2ct rfl _ _ gp gq 29 #[_, _, _, _, _] #[_, _, _, _, _] (0, 0) _ rfl rfl hp.2.1 hp.2.2 Tryz.underlying29 rfl infoN infoN) rfl ?_
            exact ⟨(by rw [E1.out]; rfl), hp.1⟩
          · have d2 : (x.1 == 9223372036854775807) = false := by simpa using h2
            obtain ⟨a0, a1, a2, a3, a4, a5, a6, a7, a8, a9⟩ := row5_facts ra.out
            obtain ⟨b0, b1, b2, b3, b4, b5, b6, b7, b8, b9⟩ := row5_facts rb.out
            go_wp2_with fail
            clear a0 a1 a2 a3 a4 a5 a6 a7 a8 a9 b0 b1 b2 b3 b4 b5 b6 b7 b8 b9
            obtain ⟨c, hc⟩ : ∃ t, clipN (-9223372036854775808) (y.2.1 - 1) = t := ⟨_, rfl⟩
            obtain ⟨d, hd⟩ : ∃ t, clipN (x.1 + 1) 9223372036854775807 = t := ⟨_, rfl⟩
            have HC : Hid (clipN (-9223372036854775808) (y.2.1 - 1) = c) := hc
            have HD : Hid (clipN (x.1 + 1) 9223372036854775807 = d) := hd
            have RC : Hid (RawN c) := by unfold Hid; rw [← hc]; exact clip_raw _ _
            have RD : Hid (RawN d) := by unfold Hid; rw [← hd]; exact clip_raw _ _
            obtain ⟨l, hl⟩ : ∃ t, meetN x c = t := ⟨_, rfl⟩
            obtain ⟨r, hr⟩ : ∃ t, meetN y d = t := ⟨_, rfl⟩
            have HLm : Hid (meetN x c = l) := hl
            have HRm : Hid (meetN y d = r) := hr
            have E1 : Hid (A = ansN l r) := by unfold Hid; rw [E0.out, ← hl, ← hr, ← hc, ← hd, Int.sub_eq_add_neg]; rfl
            have I1 : Hid (In64 (y.2.1 - 1)) := by have z := RY.out.2.1; unfold In64 at z; unfold Hid In64; omega
            have I2 : Hid (In64 (x.1 + 1)) := by have z := RX.out.1; unfold In64 at z; unfold Hid In64; omega
            have hw1 : IntKind.i64.wrap (y.2.1 - 1) = y.2.1 - 1 := by have z := I1.out; unfold In64 at z; rw [IntKind.wrap_i64]; omega
            have hw2 : IntKind.i64.wrap (x.1 + 1) = x.1 + 1 := by have z := I2.out; unfold In64 at z; rw [IntKind.wrap_i64]; omega
            obtain ⟨B, hB⟩ : ∃ t, ansN l r = t := ⟨_, rfl⟩
            have HB : Hid (ansN l r = B) := hB
            clear hc hd hl hr hB
            obtain ⟨a0, a1, a2, a3, a4, a5, a6, a7, a8, a9⟩ := row5_facts ra.out
            obtain ⟨b0, b1, b2, b3, b4, b5, b6, b7, b8, b9⟩ := row5_facts rb.out
            obtain ⟨k0, k1, k2, k3, k4, k5, k6, k7, k8, k9⟩ := row5_facts rp.out
            obtain ⟨j0, j1, j2, j3, j4, j5, j6, j7, j8, j9⟩ := row5_facts rq.out
            have za := lt_row ra.out
            have zb := lt_row rb.out
            have bz : Ok Z Z := Ok.refl _
            go_region_held3 (fun w' => w'.cell? ⟨ga, 0, none⟩ = some (.bool x.2.2.2.2) ∧ w'.cell? ⟨ga, 1, none⟩ = some (.int .i64 x.1) ∧ w'.cell? ⟨ga, 2, none⟩ = some (.int .i64 x.2.1) ∧ w'.cell? ⟨ga, 3, none⟩ = some (.int .u64 (x.2.2.1 : Int)) ∧ w'.cell? ⟨ga, 4, none⟩ = some (.int .u64 (x.2.2.2.1 : Int)) ∧ w'.cell? ⟨gb, 0, none⟩ = some (.bool y.2.2.2.2) ∧ w'.cell? ⟨gb, 1, none⟩ = some (.int .i64 y.1) ∧ w'.cell? ⟨gb, 2, none⟩ = some (.int .i64 y.2.1) ∧ w'.cell? ⟨gb, 3, none⟩ = some (.int .u64 (y.2.2.1 : Int)) ∧ w'.cell? ⟨gb, 4, none⟩ = some (.int .u64 (y.2.2.2.1 : Int))) (go_keep)
              (first
              | (go_at_call 17; refine (rto_any (y.2.1 - 1) I1.out Z _ (by repeat (first | assumption | refine Below.drew ?_))).mono ?_; rintro e w5 ⟨rfl, hb⟩; rw [HC.out]; unfold nv; have q0 := Ok.cell hb za a0; have q1 := Ok.cell hb za a1; have q2 := Ok.cell hb za a2; have q3 := Ok.cell hb za a3; have q4 := Ok.cell hb za a4; have q5 := Ok.cell hb zb b0; have q6 := Ok.cell hb zb b1; have q7 := Ok.cell hb zb b2; have q8 := Ok.cell hb zb b3; have q9 := Ok.cell hb zb b4; obtain ⟨k0, k1, k2, k3, k4, k5, k6, k7, k8, k9⟩ := row5_facts (Ok.row' hb rp.out); obtain ⟨j0, j1, j2, j3, j4, j5, j6, j7, j8, j9⟩ := row5_facts (Ok.row' hb rq.out))
              | (go_at_call 18; refine (rfrom_any (x.1 + 1) I2.out Z _ (by repeat (first | assumption | refine Below.drew ?_))).mono ?_; rintro e w5 ⟨rfl, hb⟩; rw [HD.out]; unfold nv; have q0 := Ok.cell hb za a0; have q1 := Ok.cell hb za a1; have q2 := Ok.cell hb za a2; have q3 := Ok.cell hb za a3; have q4 := Ok.cell hb za a4; have q5 := Ok.cell hb zb b0; have q6 := Ok.cell hb zb b1; have q7 := Ok.cell hb zb b2; have q8 := Ok.cell hb zb b3; have q9 := Ok.cell hb zb b4; obtain ⟨k0, k1, k2, k3, k4, k5, k6, k7, k8, k9⟩ := row5_facts (Ok.row' hb rp.out); obtain ⟨j0, j1, j2, j3, j4, j5, j6, j7, j8, j9⟩ := row5_facts (Ok.row' hb rq.out))
              | (go_at_call_of 16 (Value.int IntKind.u64 (x.2.2.1 : Int)); refine (rnmeet_any x c RX.out RC.out Z _ (by repeat (first | assumption | refine Below.drew ?_))).mono ?_; rintro e w5 ⟨rfl, hb⟩; rw [HLm.out]; unfold nv; have q0 := Ok.cell hb za a0; have q1 := Ok.cell hb za a1; have q2 := Ok.cell hb za a2; have q3 := Ok.cell hb za a3; have q4 := Ok.cell hb za a4; have q5 := Ok.cell hb zb b0; have q6 := Ok.cell hb zb b1; have q7 := Ok.cell hb zb b2; have q8 := Ok.cell hb zb b3; have q9 := Ok.cell hb zb b4; obtain ⟨k0, k1, k2, k3, k4, k5, k6, k7, k8, k9⟩ := row5_facts (Ok.row' hb rp.out); obtain ⟨j0, j1, j2, j3, j4, j5, j6, j7, j8, j9⟩ := row5_facts (Ok.row' hb rq.out))
              | (go_at_call_of 16 (Value.int IntKind.u64 (y.2.2.1 : Int)); refine (rnmeet_any y d RY.out RD.out Z _ (by repeat (first | assumption | refine Below.drew ?_))).mono ?_; rintro e w5 ⟨rfl, hb⟩; rw [HRm.out]; unfold nv; have q0 := Ok.cell hb za a0; have q1 := Ok.cell hb za a1; have q2 := Ok.cell hb za a2; have q3 := Ok.cell hb za a3; have q4 := Ok.cell hb za a4; have q5 := Ok.cell hb zb b0; have q6 := Ok.cell hb zb b1; have q7 := Ok.cell hb zb b2; have q8 := Ok.cell hb zb b3; have q9 := Ok.cell hb zb b4; obtain ⟨k0, k1, k2, k3, k4, k5, k6, k7, k8, k9⟩ := row5_facts (Ok.row' hb rp.out); obtain ⟨j0, j1, j2, j3, j4, j5, j6, j7, j8, j9⟩ := row5_facts (Ok.row' hb rq.out))
              | (go_at_call 15; refine (rboth_any l r Z _ (by repeat (first | assumption | refine Below.drew ?_))).mono ?_; rintro e w5 ⟨rfl, hb⟩; rw [HB.out]; unfold nv; have O5 : Hid (Ok Z w5) := hb; have q0 := Ok.cell hb za a0; have q1 := Ok.cell hb za a1; have q2 := Ok.cell hb za a2; have q3 := Ok.cell hb za a3; have q4 := Ok.cell hb za a4; have q5 := Ok.cell hb zb b0; have q6 := Ok.cell hb zb b1; have q7 := Ok.cell hb zb b2; have q8 := Ok.cell hb zb b3; have q9 := Ok.cell hb zb b4; obtain ⟨k0, k1, k2, k3, k4, k5, k6, k7, k8, k9⟩ := row5_facts (Ok.row' hb rp.out); obtain ⟨j0, j1, j2, j3, j4, j5, j6, j7, j8, j9⟩ := row5_facts (Ok.row' hb rq.out))
              | fail)
            replace rp : Hid _ := Ok.row' O5.out rp.out
            replace rq : Hid _ := Ok.row' O5.out rq.out
            have Hw5 : Hid (Ok w0 w5) := HZ.out.step O5.out
            go_wp2_with fail
            obtain ⟨Y, hY⟩ : ∃ Z, Z = ((((((((((w5.setCell ⟨gp, 0, none⟩ (.bool B.1.2.2.2.2)).setCell ⟨gp, 1, none⟩ (.int .i64 B.1.1)).setCell ⟨gp, 2, none⟩ (.int .i64 B.1.2.1)).setCell ⟨gp, 3, none⟩ (.int .u64 (B.1.2.2.1 : Int))).setCell ⟨gp, 4, none⟩ (.int .u64 (B.1.2.2.2.1 : Int))).setCell ⟨gq, 0, none⟩ (.bool B.2.2.2.2.2)).setCell ⟨gq, 1, none⟩ (.int .i64 B.2.1)).setCell ⟨gq, 2, none⟩ (.int .i64 B.2.2.1)).setCell ⟨gq, 3, none⟩ (.int .u64 (B.2.2.2.1 : Int))).setCell ⟨gq, 4, none⟩ (.int .u64 (B.2.2.2.2.1 : Int))) := ⟨_, rfl⟩
            have hp := rows_putr ngpgq rp.out rq.out Hw5.out lgp lgq _ _ _ _ _ _ _ _ _ _ hY
            rw [← hY]
            clear hY
            refine bodyPost_ret (results_2ct rfl _ _ gp gq 29 #[_, _, _, _, _] #[_, _, _, _, _] (0, 0) _ rfl rfl hp.2.1 hp.2.2 Tryz.underlying29 rfl infoN infoN) rfl ?_
            exact ⟨(by rw [E1.out, HB.out]; rfl), hp.1⟩
    · have E0 : Hid (A = (botN, botN)) := by unfold Hid; rw [HA.out]; unfold cmpA; rw [if_pos (Or.inr HYB.out)]
      go_wp2_with fail
      refine (rbot_any w3 _ (Ok.refl _)).mono ?_
      rintro e x1 ⟨rfl, hb⟩
      replace rp : Hid _ := Ok.row' hb rp.out
      replace rq : Hid _ := Ok.row' hb rq.out
      have Hx1 : Hid (Ok w0 x1) := Hw3.out.step hb
      clear hb
      unfold nv botN
      go_wp2_with fail
      refine (rbot_any x1 _ (Ok.refl _)).mono ?_
      rintro e x2 ⟨rfl, hb⟩
      replace rp : Hid _ := Ok.row' hb rp.out
      replace rq : Hid _ := Ok.row' hb rq.out
      have Hx2 : Hid (Ok w0 x2) := Hx1.out.step hb
      clear hb
      unfold nv botN
      obtain ⟨k0, k1, k2, k3, k4, k5, k6, k7, k8, k9⟩ := row5_facts rp.out
      obtain ⟨j0, j1, j2, j3, j4, j5, j6, j7, j8, j9⟩ := row5_facts rq.out
      go_wp2_with fail
      obtain ⟨Y, hY⟩ : ∃ Z, Z = ((((((((((x2.setCell ⟨gp, 0, none⟩ (.bool true)).setCell ⟨gp, 1, none⟩ (.int .i64 0)).setCell ⟨gp, 2, none⟩ (.int .i64 0)).setCell ⟨gp, 3, none⟩ (.int .u64 0)).setCell ⟨gp, 4, none⟩ (.int .u64 0)).setCell ⟨gq, 0, none⟩ (.bool true)).setCell ⟨gq, 1, none⟩ (.int .i64 0)).setCell ⟨gq, 2, none⟩ (.int .i64 0)).setCell ⟨gq, 3, none⟩ (.int .u64 0)).setCell ⟨gq, 4, none⟩ (.int .u64 0)) := ⟨_, rfl⟩
      have hp := rows_putr ngpgq rp.out rq.out Hx2.out lgp lgq _ _ _ _ _ _ _ _ _ _ hY
      rw [← hY]
      clear hY
      refine bodyPost_ret (results_2ct rfl _ _ gp gq 29 #[_, _, _, _, _] #[_, _, _, _, _] (0, 0) _ rfl rfl hp.2.1 hp.2.2 Tryz.underlying29 rfl infoN infoN) rfl ?_
      exact ⟨(by rw [E0.out]; rfl), hp.1⟩
  · have E0 : Hid (A = (botN, botN)) := by unfold Hid; rw [HA.out]; unfold cmpA; rw [if_pos (Or.inl HXB.out)]
    go_wp2_with fail
    refine (rbot_any w2 _ (Ok.refl _)).mono ?_
    rintro e x1 ⟨rfl, hb⟩
    replace rp : Hid _ := Ok.row' hb rp.out
    replace rq : Hid _ := Ok.row' hb rq.out
    have Hx1 : Hid (Ok w0 x1) := Hw2.out.step hb
    clear hb
    unfold nv botN
    go_wp2_with fail
    refine (rbot_any x1 _ (Ok.refl _)).mono ?_
    rintro e x2 ⟨rfl, hb⟩
    replace rp : Hid _ := Ok.row' hb rp.out
    replace rq : Hid _ := Ok.row' hb rq.out
    have Hx2 : Hid (Ok w0 x2) := Hx1.out.step hb
    clear hb
    unfold nv botN
    obtain ⟨k0, k1, k2, k3, k4, k5, k6, k7, k8, k9⟩ := row5_facts rp.out
    obtain ⟨j0, j1, j2, j3, j4, j5, j6, j7, j8, j9⟩ := row5_facts rq.out
    go_wp2_with fail
    obtain ⟨Y, hY⟩ : ∃ Z, Z = ((((((((((x2.setCell ⟨gp, 0, none⟩ (.bool true)).setCell ⟨gp, 1, none⟩ (.int .i64 0)).setCell ⟨gp, 2, none⟩ (.int .i64 0)).setCell ⟨gp, 3, none⟩ (.int .u64 0)).setCell ⟨gp, 4, none⟩ (.int .u64 0)).setCell ⟨gq, 0, none⟩ (.bool true)).setCell ⟨gq, 1, none⟩ (.int .i64 0)).setCell ⟨gq, 2, none⟩ (.int .i64 0)).setCell ⟨gq, 3, none⟩ (.int .u64 0)).setCell ⟨gq, 4, none⟩ (.int .u64 0)) := ⟨_, rfl⟩
    have hp := rows_putr ngpgq rp.out rq.out Hx2.out lgp lgq _ _ _ _ _ _ _ _ _ _ hY
    rw [← hY]
    clear hY
    refine bodyPost_ret (results_2ct rfl _ _ gp gq 29 #[_, _, _, _, _] #[_, _, _, _, _] (0, 0) _ rfl rfl hp.2.1 hp.2.2 Tryz.underlying29 rfl infoN infoN) rfl ?_
    exact ⟨(by rw [E0.out]; rfl), hp.1⟩
set_option maxRecDepth 100000 in
set_option maxHeartbeats 8000000 in
theorem rCmp9 (a b : Int × Int × Nat × Nat × Bool) (ha : RawN a) (hb : RawN b) (w0 w : World) (hok : Ok w0 w) :
    Calls Tryz.prog 5 #[.int .i64 9, nv a, nv b] w fun e w' => e = .returned (.tuple #[nv (cmpA 9 (normN a) (normN b)).1, nv (cmpA 9 (normN a) (normN b)).2, .int .i64 0]) ∧ Ok w0 w' := by
  have hle := hok.le
  have HU : Hid (RawN a ∧ RawN b) := ⟨ha, hb⟩
  clear ha hb
  obtain ⟨x, hx⟩ : ∃ t, t = normN a := ⟨_, rfl⟩
  obtain ⟨y, hy⟩ : ∃ t, t = normN b := ⟨_, rfl⟩
  rw [← hx, ← hy]
  have HX : Hid _ := hx
  have HY : Hid _ := hy
  have RX : Hid (RawN x) := by unfold Hid; rw [hx]; exact normN_raw HU.out.1
  have RY : Hid (RawN y) := by unfold Hid; rw [hy]; exact normN_raw HU.out.2
  have NX : Hid (NormN x) := by unfold Hid; rw [hx]; exact normN_norm HU.out.1
  have NY : Hid (NormN y) := by unfold Hid; rw [hy]; exact normN_norm HU.out.2
  clear hx hy
  obtain ⟨A, hA⟩ : ∃ t, t = cmpA 9 x y := ⟨_, rfl⟩
  rw [← hA]
  have HA : Hid _ := hA
  clear hA
  obtain ⟨xb, hxb⟩ : ∃ t, t = x.2.2.2.2 := ⟨_, rfl⟩
  obtain ⟨yb, hyb⟩ : ∃ t, t = y.2.2.2.2 := ⟨_, rfl⟩
  have HXB : Hid (x.2.2.2.2 = xb) := hxb.symm
  have HYB : Hid (y.2.2.2.2 = yb) := hyb.symm
  clear hxb hyb
  unfold nv
  go_enter Tryz.func5, Tryz.ntmps5
  go_wp2_with fail
  obtain ⟨W, hW⟩ : ∃ W, W = ((((w).alloc (.cells #[.bool a.2.2.2.2, .int .i64 a.1, .int .i64 a.2.1, .int .u64 (a.2.2.1 : Int), .int .u64 (a.2.2.2.1 : Int)] 29)).alloc (.cells #[.bool b.2.2.2.2, .int .i64 b.1, .int .i64 b.2.1, .int .u64 (b.2.2.1 : Int), .int .u64 (b.2.2.2.1 : Int)] 29)).alloc (.cells #[.bool false, .int .i64 0, .int .i64 0, .int .u64 0, .int .u64 0] 29)).alloc (.cells #[.bool false, .int .i64 0, .int .i64 0, .int .u64 0, .int .u64 0] 29) := ⟨_, rfl⟩
  have ra : Hid (W.heap[w.heap.size]? = some (.cells #[.bool a.2.2.2.2, .int .i64 a.1, .int .i64 a.2.1, .int .u64 (a.2.2.1 : Int), .int .u64 (a.2.2.2.1 : Int)] 29)) := by unfold Hid; rw [hW]; exact (by repeat (first | (refine heap_at _ _ _ ?hx; case hx => (first | (simp; done) | (simp; omega))) | (refine heap_past _ _ _ ?hy ?_; case hy => (first | (simp; done) | (simp; omega))) | fail))
  have rb : Hid (W.heap[w.heap.size + 1]? = some (.cells #[.bool b.2.2.2.2, .int .i64 b.1, .int .i64 b.2.1, .int .u64 (b.2.2.1 : Int), .int .u64 (b.2.2.2.1 : Int)] 29)) := by unfold Hid; rw [hW]; exact (by repeat (first | (refine heap_at _ _ _ ?hx; case hx => (first | (simp; done) | (simp; omega))) | (refine heap_past _ _ _ ?hy ?_; case hy => (first | (simp; done) | (simp; omega))) | fail))
  have rp : Hid (W.heap[w.heap.size + 1 + 1]? = some (.cells #[.bool false, .int .i64 0, .int .i64 0, .int .u64 0, .int .u64 0] 29)) := by unfold Hid; rw [hW]; exact (by repeat (first | (refine heap_at _ _ _ ?hx; case hx => (first | (simp; done) | (simp; omega))) | (refine heap_past _ _ _ ?hy ?_; case hy => (first | (simp; done) | (simp; omega))) | fail))
  have rq : Hid (W.heap[w.heap.size + 1 + 1 + 1]? = some (.cells #[.bool false, .int .i64 0, .int .i64 0, .int .u64 0, .int .u64 0] 29)) := by unfold Hid; rw [hW]; exact (by repeat (first | (refine heap_at _ _ _ ?hx; case hx => (first | (simp; done) | (simp; omega))) | (refine heap_past _ _ _ ?hy ?_; case hy => (first | (simp; done) | (simp; omega))) | fail))
  have HW : Hid (Ok w0 W) := by unfold Hid; rw [hW]; exact (by repeat (first | exact hok | refine Ok.alloc ?_ _ | refine Ok.draws ?_ _ | fail))
  rw [← hW]
  clear hW
  obtain ⟨gq, egq⟩ : ∃ g, g = w.heap.size + 1 + 1 + 1 := ⟨_, rfl⟩
  rw [← egq] at rq ⊢
  obtain ⟨gp, egp⟩ : ∃ g, g = w.heap.size + 1 + 1 := ⟨_, rfl⟩
  rw [← egp] at rp ⊢
  obtain ⟨gb, egb⟩ : ∃ g, g = w.heap.size + 1 := ⟨_, rfl⟩
  rw [← egb] at rb ⊢
  obtain ⟨ga, ega⟩ : ∃ g, g = w.heap.size := ⟨_, rfl⟩
  rw [← ega] at ra ⊢
  have lga : w0.heap.size ≤ ga := by omega
  have ngagb : ¬ ga = gb := by omega
  have ngagp : ¬ ga = gp := by omega
  have ngagq : ¬ ga = gq := by omega
  have lgb : w0.heap.size ≤ gb := by omega
  have ngbga : ¬ gb = ga := by omega
  have ngbgp : ¬ gb = gp := by omega
  have ngbgq : ¬ gb = gq := by omega
  have lgp : w0.heap.size ≤ gp := by omega
  have ngpga : ¬ gp = ga := by omega
  have ngpgb : ¬ gp = gb := by omega
  have ngpgq : ¬ gp = gq := by omega
  have lgq : w0.heap.size ≤ gq := by omega
  have ngqga : ¬ gq = ga := by omega
  have ngqgb : ¬ gq = gb := by omega
  have ngqgp : ¬ gq = gp := by omega
  clear ega egb egp egq
  refine (rNegate_any 9 (Or.inr (Or.inl rfl)) W _ (by repeat (first | exact Ok.refl _ | refine Ok.alloc ?_ _ | refine Ok.draws ?_ _ | fail))).mono ?_
  rintro e w1 ⟨rfl, hb⟩
  replace ra : Hid _ := Ok.row' hb ra.out
  replace rb : Hid _ := Ok.row' hb rb.out
  replace rp : Hid _ := Ok.row' hb rp.out
  replace rq : Hid _ := Ok.row' hb rq.out
  have Hw1 : Hid (Ok w0 w1) := HW.out.step hb
  clear hb
  obtain ⟨a0, a1, a2, a3, a4, a5, a6, a7, a8, a9⟩ := row5_facts ra.out
  go_wp2_with fail
  clear a0 a1 a2 a3 a4 a5 a6 a7 a8 a9
  refine (rbot14_any a HU.out.1 w1 _ (by repeat (first | exact Ok.refl _ | refine Ok.alloc ?_ _ | refine Ok.draws ?_ _ | fail))).mono ?_
  rintro e w2 ⟨rfl, hb⟩
  replace ra : Hid _ := Ok.row' hb ra.out
  replace rb : Hid _ := Ok.row' hb rb.out
  replace rp : Hid _ := Ok.row' hb rp.out
  replace rq : Hid _ := Ok.row' hb rq.out
  have Hw2 : Hid (Ok w0 w2) := Hw1.out.step hb
  clear hb
  rw [← HX.out, HXB.out]
  cases xb
  · obtain ⟨b0, b1, b2, b3, b4, b5, b6, b7, b8, b9⟩ := row5_facts rb.out
    go_wp2_with fail
    clear b0 b1 b2 b3 b4 b5 b6 b7 b8 b9
    refine (rbot14_any b HU.out.2 w2 _ (by repeat (first | exact Ok.refl _ | refine Ok.alloc ?_ _ | refine Ok.draws ?_ _ | fail))).mono ?_
    rintro e w3 ⟨rfl, hb⟩
    replace ra : Hid _ := Ok.row' hb ra.out
    replace rb : Hid _ := Ok.row' hb rb.out
    replace rp : Hid _ := Ok.row' hb rp.out
    replace rq : Hid _ := Ok.row' hb rq.out
    have Hw3 : Hid (Ok w0 w3) := Hw2.out.step hb
    clear hb
    rw [← HY.out, HYB.out]
    cases yb
    · have E0 : Hid (A = ansN (compN 9 x y).1 (compN 9 x y).2) := by unfold Hid; rw [HA.out]; unfold cmpA; rw [if_neg (by rw [HXB.out, HYB.out]; simp)]
      clear HA
      go_wp2_with fail
      obtain ⟨V, eV⟩ : ∃ t, t = w3 := ⟨_, rfl⟩
      rw [← eV] at ra rb rp rq Hw3 ⊢
      have HV : Hid (Ok w0 V) := Hw3
      clear eV Hw3
      apply wp_cutN (fun w1 => Hid (Ok w0 w1 ∧ w1.heap[ga]? = some (.cells #[.bool x.2.2.2.2, .int .i64 x.1, .int .i64 x.2.1, .int .u64 (x.2.2.1 : Int), .int .u64 (x.2.2.2.1 : Int)] 29) ∧ w1.heap[gb]? = some (.cells #[.bool y.2.2.2.2, .int .i64 y.1, .int .i64 y.2.1, .int .u64 (y.2.2.1 : Int), .int .u64 (y.2.2.2.1 : Int)] 29) ∧ (∀ (h : Nat) (o : Obj), h ≠ ga → h ≠ gb → V.heap[h]? = some o → w1.heap[h]? = some o)))
      case h1 =>
        obtain ⟨a0, a1, a2, a3, a4, a5, a6, a7, a8, a9⟩ := row5_facts ra.out
        obtain ⟨b0, b1, b2, b3, b4, b5, b6, b7, b8, b9⟩ := row5_facts rb.out
        have bz : Ok V V := Ok.refl _
        go_region_with (go_at_call 14; refine (rnorm_any _ (by first | exact HU.out.1 | exact HU.out.2) V _ (by first | assumption | exact Below.drew (by assumption))).mono ?_; rintro e w1 ⟨rfl, hb⟩; (first | rw [← HX.out] | rw [← HY.out]); unfold nv; obtain ⟨a0, a1, a2, a3, a4, a5, a6, a7, a8, a9⟩ := row5_facts (Ok.row' hb ra.out); obtain ⟨b0, b1, b2, b3, b4, b5, b6, b7, b8, b9⟩ := row5_facts (Ok.row' hb rb.out))
        all_goals exact ⟨rfl, rows_put2 (by omega) ra.out rb.out hb HV.out (by omega) (by omega) _ _ _ _ _ _ _ _ _ _⟩
      case h2 =>
        rintro Z H
        obtain ⟨HZ, raz, rbz, keep⟩ := H.out
        replace HZ : Hid (Ok w0 Z) := HZ
        replace raz : Hid _ := raz
        replace rbz : Hid _ := rbz
        replace rp : Hid _ := keep _ _ (by omega) (by omega) rp.out
        replace rq : Hid _ := keep _ _ (by omega) (by omega) rq.out
        clear H ra rb keep
        have ra : Hid _ := raz
        have rb : Hid _ := rbz
        clear raz rbz
        go_wp2_with fail
        obtain ⟨c, hc⟩ : ∃ t, clipN (-9223372036854775808) (y.2.1) = t := ⟨_, rfl⟩
        obtain ⟨d, hd⟩ : ∃ t, clipN (x.1) 9223372036854775807 = t := ⟨_, rfl⟩
        have HC : Hid (clipN (-9223372036854775808) (y.2.1) = c) := hc
        have HD : Hid (clipN (x.1) 9223372036854775807 = d) := hd
        have RC : Hid (RawN c) := by unfold Hid; rw [← hc]; exact clip_raw _ _
        have RD : Hid (RawN d) := by unfold Hid; rw [← hd]; exact clip_raw _ _
        obtain ⟨l, hl⟩ : ∃ t, meetN x c = t := ⟨_, rfl⟩
        obtain ⟨r, hr⟩ : ∃ t, meetN y d = t := ⟨_, rfl⟩
        have HLm : Hid (meetN x c = l) := hl
        have HRm : Hid (meetN y d = r) := hr
        have E1 : Hid (A = ansN l r) := by unfold Hid; rw [E0.out, ← hl, ← hr, ← hc, ← hd]; rfl
        have I1 : Hid (In64 (y.2.1)) := by exact RY.out.2.1
        have I2 : Hid (In64 (x.1)) := by exact RX.out.1
        obtain ⟨B, hB⟩ : ∃ t, ansN l r = t := ⟨_, rfl⟩
        have HB : Hid (ansN l r = B) := hB
        clear hc hd hl hr hB
        obtain ⟨a0, a1, a2, a3, a4, a5, a6, a7, a8, a9⟩ := row5_facts ra.out
        obtain ⟨b0, b1, b2, b3, b4, b5, b6, b7, b8, b9⟩ := row5_facts rb.out
        obtain ⟨k0, k1, k2, k3, k4, k5, k6, k7, k8, k9⟩ := row5_facts rp.out
        obtain ⟨j0, j1, j2, j3, j4, j5, j6, j7, j8, j9⟩ := row5_facts rq.out
        have za := lt_row ra.out
        have zb := lt_row rb.out
        have bz : Ok Z Z := Ok.refl _
        go_region_held3 (fun w' => w'.cell? ⟨ga, 0, none⟩ = some (.bool x.2.2.2.2) ∧ w'.cell? ⟨ga, 1, none⟩ = some (.int .i64 x.1) ∧ w'.cell? ⟨ga, 2, none⟩ = some (.int .i64 x.2.1) ∧ w'.cell? ⟨ga, 3, none⟩ = some (.int .u64 (x.2.2.1 : Int)) ∧ w'.cell? ⟨ga, 4, none⟩ = some (.int .u64 (x.2.2.2.1 : Int)) ∧ w'.cell? ⟨gb, 0, none⟩ = some (.bool y.2.2.2.2) ∧ w'.cell? ⟨gb, 1, none⟩ = some (.int .i64 y.1) ∧ w'.cell? ⟨gb, 2, none⟩ = some (.int .i64 y.2.1) ∧ w'.cell? ⟨gb, 3, none⟩ = some (.int .u64 (y.2.2.1 : Int)) ∧ w'.cell? ⟨gb, 4, none⟩ = some (.int .u64 (y.2.2.2.1 : Int))) (go_keep)
          (first
          | (go_at_call 17; refine (rto_any (y.2.1) I1.out Z _ (by repeat (first | assumption | refine Below.drew ?_))).mono ?_; rintro e w5 ⟨rfl, hb⟩; rw [HC.out]; unfold nv; have q0 := Ok.cell hb za a0; have q1 := Ok.cell hb za a1; have q2 := Ok.cell hb za a2; have q3 := Ok.cell hb za a3; have q4 := Ok.cell hb za a4; have q5 := Ok.cell hb zb b0; have q6 := Ok.cell hb zb b1; have q7 := Ok.cell hb zb b2; have q8 := Ok.cell hb zb b3; have q9 := Ok.cell hb zb b4; obtain ⟨k0, k1, k2, k3, k4, k5, k6, k7, k8, k9⟩ := row5_facts (Ok.row' hb rp.out); obtain ⟨j0, j1, j2, j3, j4, j5, j6, j7, j8, j9⟩ := row5_facts (Ok.row' hb rq.out))
          | (go_at_call 18; refine (rfrom_any (x.1) I2.out Z _ (by repeat (first | assumption | refine Below.drew ?_))).mono ?_; rintro e w5 ⟨rfl, hb⟩; rw [HD.out]; unfold nv; have q0 := Ok.cell hb za a0; have q1 := Ok.cell hb za a1; have q2 := Ok.cell hb za a2; have q3 := Ok.cell hb za a3; have q4 := Ok.cell hb za a4; have q5 := Ok.cell hb zb b0; have q6 := Ok.cell hb zb b1; have q7 := Ok.cell hb zb b2; have q8 := Ok.cell hb zb b3; have q9 := Ok.cell hb zb b4; obtain ⟨k0, k1, k2, k3, k4, k5, k6, k7, k8, k9⟩ := row5_facts (Ok.row' hb rp.out); obtain ⟨j0, j1, j2, j3, j4, j5, j6, j7, j8, j9⟩ := row5_facts (Ok.row' hb rq.out))
          | (go_at_call_of 16 (Value.int IntKind.u64 (x.2.2.1 : Int)); refine (rnmeet_any x c RX.out RC.out Z _ (by repeat (first | assumption | refine Below.drew ?_))).mono ?_; rintro e w5 ⟨rfl, hb⟩; rw [HLm.out]; unfold nv; have q0 := Ok.cell hb za a0; have q1 := Ok.cell hb za a1; have q2 := Ok.cell hb za a2; have q3 := Ok.cell hb za a3; have q4 := Ok.cell hb za a4; have q5 := Ok.cell hb zb b0; have q6 := Ok.cell hb zb b1; have q7 := Ok.cell hb zb b2; have q8 := Ok.cell hb zb b3; have q9 := Ok.cell hb zb b4; obtain ⟨k0, k1, k2, k3, k4, k5, k6, k7, k8, k9⟩ := row5_facts (Ok.row' hb rp.out); obtain ⟨j0, j1, j2, j3, j4, j5, j6, j7, j8, j9⟩ := row5_facts (Ok.row' hb rq.out))
          | (go_at_call_of 16 (Value.int IntKind.u64 (y.2.2.1 : Int)); refine (rnmeet_any y d RY.out RD.out Z _ (by repeat (first | assumption | refine Below.drew ?_))).mono ?_; rintro e w5 ⟨rfl, hb⟩; rw [HRm.out]; unfold nv; have q0 := Ok.cell hb za a0; have q1 := Ok.cell hb za a1; have q2 := Ok.cell hb za a2; have q3 := Ok.cell hb za a3; have q4 := Ok.cell hb za a4; have q5 := Ok.cell hb zb b0; have q6 := Ok.cell hb zb b1; have q7 := Ok.cell hb zb b2; have q8 := Ok.cell hb zb b3; have q9 := Ok.cell hb zb b4; obtain ⟨k0, k1, k2, k3, k4, k5, k6, k7, k8, k9⟩ := row5_facts (Ok.row' hb rp.out); obtain ⟨j0, j1, j2, j3, j4, j5, j6, j7, j8, j9⟩ := row5_facts (Ok.row' hb rq.out))
          | (go_at_call 15; refine (rboth_any l r Z _ (by repeat (first | assumption | refine Below.drew ?_))).mono ?_; rintro e w5 ⟨rfl, hb⟩; rw [HB.out]; unfold nv; have O5 : Hid (Ok Z w5) := hb; have q0 := Ok.cell hb za a0; have q1 := Ok.cell hb za a1; have q2 := Ok.cell hb za a2; have q3 := Ok.cell hb za a3; have q4 := Ok.cell hb za a4; have q5 := Ok.cell hb zb b0; have q6 := Ok.cell hb zb b1; have q7 := Ok.cell hb zb b2; have q8 := Ok.cell hb zb b3; have q9 := Ok.cell hb zb b4; obtain ⟨k0, k1, k2, k3, k4, k5, k6, k7, k8, k9⟩ := row5_facts (Ok.row' hb rp.out); obtain ⟨j0, j1, j2, j3, j4, j5, j6, j7, j8, j9⟩ := row5_facts (Ok.row' hb rq.out))
          | fail)
        replace rp : Hid _ := Ok.row' O5.out rp.out
        replace rq : Hid _ := Ok.row' O5.out rq.out
        have Hw5 : Hid (Ok w0 w5) := HZ.out.step O5.out
        go_wp2_with fail
        obtain ⟨Y, hY⟩ : ∃ Z, Z = ((((((((((w5.setCell ⟨gp, 0, none⟩ (.bool B.1.2.2.2.2)).setCell ⟨gp, 1, none⟩ (.int .i64 B.1.1)).setCell ⟨gp, 2, none⟩ (.int .i64 B.1.2.1)).setCell ⟨gp, 3, none⟩ (.int .u64 (B.1.2.2.1 : Int))).setCell ⟨gp, 4, none⟩ (.int .u64 (B.1.2.2.2.1 : Int))).setCell ⟨gq, 0, none⟩ (.bool B.2.2.2.2.2)).setCell ⟨gq, 1, none⟩ (.int .i64 B.2.1)).setCell ⟨gq, 2, none⟩ (.int .i64 B.2.2.1)).setCell ⟨gq, 3, none⟩ (.int .u64 (B.2.2.2.1 : Int))).setCell ⟨gq, 4, none⟩ (.int .u64 (B.2.2.2.2.1 : Int))) := ⟨_, rfl⟩
        have hp := rows_putr ngpgq rp.out rq.out Hw5.out lgp lgq _ _ _ _ _ _ _ _ _ _ hY
        rw [← hY]
        clear hY
        refine bodyPost_ret (results_2ct rfl _ _ gp gq 29 #[_, _, _, _, _] #[_, _, _, _, _] (0, 0) _ rfl rfl hp.2.1 hp.2.2 Tryz.underlying29 rfl infoN infoN) rfl ?_
        exact ⟨(by rw [E1.out, HB.out]; rfl), hp.1⟩
    · have E0 : Hid (A = (botN, botN)) := by unfold Hid; rw [HA.out]; unfold cmpA; rw [if_pos (Or.inr HYB.out)]
      go_wp2_with fail
      refine (rbot_any w3 _ (Ok.refl _)).mono ?_
      rintro e x1 ⟨rfl, hb⟩
      replace rp : Hid _ := Ok.row' hb rp.out
      replace rq : Hid _ := Ok.row' hb rq.out
      have Hx1 : Hid (Ok w0 x1) := Hw3.out.step hb
      clear hb
      unfold nv botN
      go_wp2_with fail
      refine (rbot_any x1 _ (Ok.refl _)).mono ?_
      rintro e x2 ⟨rfl, hb⟩
      replace rp : Hid _ := Ok.row' hb rp.out
      replace rq : Hid _ := Ok.row' hb rq.out
      have Hx2 : Hid (Ok w0 x2) := Hx1.out.step hb
      clear hb
      unfold nv botN
      obtain ⟨k0, k1, k2, k3, k4, k5, k6, k7, k8, k9⟩ := row5_facts rp.out
      obtain ⟨j0, j1, j2, j3, j4, j5, j6, j7, j8, j9⟩ := row5_facts rq.out
      go_wp2_with fail
      obtain ⟨Y, hY⟩ : ∃ Z, Z = ((((((((((x2.setCell ⟨gp, 0, none⟩ (.bool true)).setCell ⟨gp, 1, none⟩ (.int .i64 0)).setCell ⟨gp, 2, none⟩ (.int .i64 0)).setCell ⟨gp, 3, none⟩ (.int .u64 0)).setCell ⟨gp, 4, none⟩ (.int .u64 0)).setCell ⟨gq, 0, none⟩ (.bool true)).setCell ⟨gq, 1, none⟩ (.int .i64 0)).setCell ⟨gq, 2, none⟩ (.int .i64 0)).setCell ⟨gq, 3, none⟩ (.int .u64 0)).setCell ⟨gq, 4, none⟩ (.int .u64 0)) := ⟨_, rfl⟩
      have hp := rows_putr ngpgq rp.out rq.out Hx2.out lgp lgq _ _ _ _ _ _ _ _ _ _ hY
      rw [← hY]
      clear hY
      refine bodyPost_ret (results_2ct rfl _ _ gp gq 29 #[_, _, _, _, _] #[_, _, _, _, _] (0, 0) _ rfl rfl hp.2.1 hp.2.2 Tryz.underlying29 rfl infoN infoN) rfl ?_
      exact ⟨(by rw [E0.out]; rfl), hp.1⟩
  · have E0 : Hid (A = (botN, botN)) := by unfold Hid; rw [HA.out]; unfold cmpA; rw [if_pos (Or.inl HXB.out)]
    go_wp2_with fail
    refine (rbot_any w2 _ (Ok.refl _)).mono ?_
    rintro e x1 ⟨rfl, hb⟩
    replace rp : Hid _ := Ok.row' hb rp.out
    replace rq : Hid _ := Ok.row' hb rq.out
    have Hx1 : Hid (Ok w0 x1) := Hw2.out.step hb
    clear hb
    unfold nv botN
    go_wp2_with fail
    refine (rbot_any x1 _ (Ok.refl _)).mono ?_
    rintro e x2 ⟨rfl, hb⟩
    replace rp : Hid _ := Ok.row' hb rp.out
    replace rq : Hid _ := Ok.row' hb rq.out
    have Hx2 : Hid (Ok w0 x2) := Hx1.out.step hb
    clear hb
    unfold nv botN
    obtain ⟨k0, k1, k2, k3, k4, k5, k6, k7, k8, k9⟩ := row5_facts rp.out
    obtain ⟨j0, j1, j2, j3, j4, j5, j6, j7, j8, j9⟩ := row5_facts rq.out
    go_wp2_with fail
    obtain ⟨Y, hY⟩ : ∃ Z, Z = ((((((((((x2.setCell ⟨gp, 0, none⟩ (.bool true)).setCell ⟨gp, 1, none⟩ (.int .i64 0)).setCell ⟨gp, 2, none⟩ (.int .i64 0)).setCell ⟨gp, 3, none⟩ (.int .u64 0)).setCell ⟨gp, 4, none⟩ (.int .u64 0)).setCell ⟨gq, 0, none⟩ (.bool true)).setCell ⟨gq, 1, none⟩ (.int .i64 0)).setCell ⟨gq, 2, none⟩ (.int .i64 0)).setCell ⟨gq, 3, none⟩ (.int .u64 0)).setCell ⟨gq, 4, none⟩ (.int .u64 0)) := ⟨_, rfl⟩
    have hp := rows_putr ngpgq rp.out rq.out Hx2.out lgp lgq _ _ _ _ _ _ _ _ _ _ hY
    rw [← hY]
    clear hY
    refine bodyPost_ret (results_2ct rfl _ _ gp gq 29 #[_, _, _, _, _] #[_, _, _, _, _] (0, 0) _ rfl rfl hp.2.1 hp.2.2 Tryz.underlying29 rfl infoN infoN) rfl ?_
    exact ⟨(by rw [E0.out]; rfl), hp.1⟩
end Go.Proofs.YtbkblijoimmdeaaGreat
