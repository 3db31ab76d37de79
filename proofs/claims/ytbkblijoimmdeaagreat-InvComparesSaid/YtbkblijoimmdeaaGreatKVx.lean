import Derived.Test.YtbkblijoimmdeaaGreatKZroot
import Derived.Deep.Cut
import Derived.Deep.CutRange
import Derived.Deep.RegionWith
set_option linter.unusedVariables false
set_option linter.unusedSimpArgs false
set_option linter.unnecessarySimpa false
/- The document's lessAtEnds (winnowref14). -/
namespace Go.Proofs.YtbkblijoimmdeaaGreat
open Go.RowKit Go.Shelf
theorem put1_end {w0 W w2 : World} {g : Nat} {p0 p1 p2 p3 p4 : Value} {t : TypeId} (hW : Ok w0 W) (hb : Ok W w2) (ra : W.heap[g]? = some (.cells #[p0, p1, p2, p3, p4] t (0, 0))) (hg : w0.heap.size ≤ g) (x0 x1 x2 x3 x4 : Value) :
    Hid (Ok w0 (((((w2.setCell ⟨g, 0, none⟩ x0).setCell ⟨g, 1, none⟩ x1).setCell ⟨g, 2, none⟩ x2).setCell ⟨g, 3, none⟩ x3).setCell ⟨g, 4, none⟩ x4) ∧ (((((w2.setCell ⟨g, 0, none⟩ x0).setCell ⟨g, 1, none⟩ x1).setCell ⟨g, 2, none⟩ x2).setCell ⟨g, 3, none⟩ x3).setCell ⟨g, 4, none⟩ x4).heap[g]? = some (.cells #[x0, x1, x2, x3, x4] t (0, 0)) ∧ (∀ (h : Nat) (o : Obj), h ≠ g → W.heap[h]? = some o → (((((w2.setCell ⟨g, 0, none⟩ x0).setCell ⟨g, 1, none⟩ x1).setCell ⟨g, 2, none⟩ x2).setCell ⟨g, 3, none⟩ x3).setCell ⟨g, 4, none⟩ x4).heap[h]? = some o)) := by
  have h := (rows_put1 (Ok.row' hb ra) (hW.step hb) hg x0 x1 x2 x3 x4 rfl).out
  exact ⟨h.1, h.2.1, fun k o hk e => h.2.2 k o hk (Ok.row' hb e)⟩
theorem NTv (a : Int × Int × Nat × Nat × Bool) : nv a = .agg #[.bool a.2.2.2.2, .int .i64 a.1, .int .i64 a.2.1, .int .u64 (a.2.2.1 : Int), .int .u64 (a.2.2.2.1 : Int)] := rfl
set_option maxRecDepth 100000 in
set_option maxHeartbeats 8000000 in
theorem rless_any (a : Int × Int × Nat × Nat × Bool) (v : Int) (ha : RawN a) (na : NormN a) (hv : In64 v) (w0 w : World) (hok : Ok w0 w) :
    Calls Tryz.prog 20 #[nv a, .int .i64 v] w fun e w' => e = .returned (nv (lesN a v)) ∧ Ok w0 w' := by
  have hle := hok.le
  have IV : Hid (In64 v) := hv
  have RA : Hid (RawN a) := ha
  have NA : Hid (NormN a) := na
  clear hv ha na
  obtain ⟨r, hr0⟩ : ∃ t, t = lesN a v := ⟨_, rfl⟩
  rw [← hr0]
  have HR0 : Hid (r = lesN a v) := hr0
  clear hr0
  unfold nv
  by_cases h1 : a.1 = v
  · have d1 : (a.1 == v) = true := by simpa using h1
    by_cases h4 : v = 9223372036854775807
    · have HA : Hid (r = botN) := by unfold Hid; rw [HR0.out]; exact les_max RA.out h1 h4
      have d4 : (v == 9223372036854775807) = true := by simpa using h4
      clear h1 h4
      go_enter Tryz.func20, Tryz.ntmps20
      go_wp2_with fail
      obtain ⟨W, hW⟩ : ∃ W, W = ((w).alloc (.cells #[.bool a.2.2.2.2, .int .i64 a.1, .int .i64 a.2.1, .int .u64 (a.2.2.1 : Int), .int .u64 (a.2.2.2.1 : Int)] 29)).alloc (.cells #[.bool false, .int .i64 0, .int .i64 0, .int .u64 0, .int .u64 0] 29) := ⟨_, rfl⟩
      have ra : Hid (W.heap[w.heap.size]? = some (.cells #[.bool a.2.2.2.2, .int .i64 a.1, .int .i64 a.2.1, .int .u64 (a.2.2.1 : Int), .int .u64 (a.2.2.2.1 : Int)] 29)) := by unfold Hid; rw [hW]; exact (by repeat (first | (refine heap_at _ _ _ ?hx; case hx => (first | (simp; done) | (simp; omega))) | (refine heap_past _ _ _ ?hy ?_; case hy => (first | (simp; done) | (simp; omega))) | fail))
      have rz : Hid (W.heap[w.heap.size + 1]? = some (.cells #[.bool false, .int .i64 0, .int .i64 0, .int .u64 0, .int .u64 0] 29)) := by unfold Hid; rw [hW]; exact (by repeat (first | (refine heap_at _ _ _ ?hx; case hx => (first | (simp; done) | (simp; omega))) | (refine heap_past _ _ _ ?hy ?_; case hy => (first | (simp; done) | (simp; omega))) | fail))
      have HW : Hid (Ok w0 W) := by unfold Hid; rw [hW]; exact (by repeat (first | exact hok | refine Ok.alloc ?_ _ | refine Ok.draws ?_ _ | fail))
      rw [← hW]
      clear hW
      obtain ⟨gz, egz⟩ : ∃ g, g = w.heap.size + 1 := ⟨_, rfl⟩
      rw [← egz] at rz ⊢
      obtain ⟨ga, ega⟩ : ∃ g, g = w.heap.size := ⟨_, rfl⟩
      rw [← ega] at ra ⊢
      have lga : w0.heap.size ≤ ga := by omega
      have ngagz : ¬ ga = gz := by omega
      have lgz : w0.heap.size ≤ gz := by omega
      have ngzga : ¬ gz = ga := by omega
      clear ega egz
      refine (rbot_any W _ (Ok.refl _)).mono ?_
      rintro e u1 ⟨rfl, hb⟩
      have hr : Hid _ := Ok.row' hb rz.out
      have Hu : Hid (Ok w0 u1) := HW.out.step hb
      clear hb
      obtain ⟨k0, k1, k2, k3, k4, k5, k6, k7, k8, k9⟩ := row5_facts hr.out
      unfold nv botN
      go_wp2_with fail
      (try simp only [Exit.inBlock, Exit.then]); refine bodyPost_ret (results_cell_row rfl _ _ (gz) 29 #[_, _, _, _, _] (0, 0) _ rfl (row_set5 hr.out _ _ _ _ _) Tryz.underlying29 rfl infoN) rfl ?_
      exact ⟨(by rw [HA.out]; rfl), Ok.set (Ok.set (Ok.set (Ok.set (Ok.set (Hu.out) (show w0.heap.size ≤ gz by omega) _) (show w0.heap.size ≤ gz by omega) _) (show w0.heap.size ≤ gz by omega) _) (show w0.heap.size ≤ gz by omega) _) (show w0.heap.size ≤ gz by omega) _⟩
    · have d4 : (v == 9223372036854775807) = false := by simpa using h4
      obtain ⟨c, hc⟩ : ∃ t, clipN (v + 1) 9223372036854775807 = t := ⟨_, rfl⟩
      have HC : Hid (clipN (v + 1) 9223372036854775807 = c) := hc
      have RC : Hid (RawN c) := by unfold Hid; rw [← hc]; exact clip_raw _ _
      obtain ⟨x, hx⟩ : ∃ t, meetN a c = t := ⟨_, rfl⟩
      have HY : Hid (meetN a c = x) := hx
      have ex : aboN a v = x := by rw [← hx, ← hc]; rfl
      have HR : Hid (r = if x.2.1 = v then belN x v else x) := by unfold Hid; rw [HR0.out]; exact les_next (by rw [if_pos h1, ex])
      have NX0 : Hid (NormN x) := by unfold Hid; rw [← ex]; exact abo_norm RA.out v
      have RX0 : Hid (RawN x) := by unfold Hid; rw [← ex]; exact abo_raw RA.out v
      have RX : Hid (RawN a) := RA
      have HV1 : Hid (In64 (v + 1)) := by have z := IV.out; unfold In64 at z; unfold Hid In64; omega
      have b1 : -9223372036854775808 ≤ v + 1 := HV1.out.1
      have b2 : v + 1 ≤ 9223372036854775807 := HV1.out.2
      have hw : IntKind.i64.wrap (v + 1) = v + 1 := by rw [IntKind.wrap_i64]; omega
      clear hc hx ex h1 h4 HR0
      go_enter Tryz.func20, Tryz.ntmps20
      go_wp2_with fail
      obtain ⟨W, hW⟩ : ∃ W, W = ((w).alloc (.cells #[.bool a.2.2.2.2, .int .i64 a.1, .int .i64 a.2.1, .int .u64 (a.2.2.1 : Int), .int .u64 (a.2.2.2.1 : Int)] 29)).alloc (.cells #[.bool false, .int .i64 0, .int .i64 0, .int .u64 0, .int .u64 0] 29) := ⟨_, rfl⟩
      have ra : Hid (W.heap[w.heap.size]? = some (.cells #[.bool a.2.2.2.2, .int .i64 a.1, .int .i64 a.2.1, .int .u64 (a.2.2.1 : Int), .int .u64 (a.2.2.2.1 : Int)] 29)) := by unfold Hid; rw [hW]; exact (by repeat (first | (refine heap_at _ _ _ ?hx; case hx => (first | (simp; done) | (simp; omega))) | (refine heap_past _ _ _ ?hy ?_; case hy => (first | (simp; done) | (simp; omega))) | fail))
      have rz : Hid (W.heap[w.heap.size + 1]? = some (.cells #[.bool false, .int .i64 0, .int .i64 0, .int .u64 0, .int .u64 0] 29)) := by unfold Hid; rw [hW]; exact (by repeat (first | (refine heap_at _ _ _ ?hx; case hx => (first | (simp; done) | (simp; omega))) | (refine heap_past _ _ _ ?hy ?_; case hy => (first | (simp; done) | (simp; omega))) | fail))
      have HW : Hid (Ok w0 W) := by unfold Hid; rw [hW]; exact (by repeat (first | exact hok | refine Ok.alloc ?_ _ | refine Ok.draws ?_ _ | fail))
      rw [← hW]
      clear hW
      obtain ⟨gz, egz⟩ : ∃ g, g = w.heap.size + 1 := ⟨_, rfl⟩
      rw [← egz] at rz ⊢
      obtain ⟨ga, ega⟩ : ∃ g, g = w.heap.size := ⟨_, rfl⟩
      rw [← ega] at ra ⊢
      have lga : w0.heap.size ≤ ga := by omega
      have ngagz : ¬ ga = gz := by omega
      have lgz : w0.heap.size ≤ gz := by omega
      have ngzga : ¬ gz = ga := by omega
      clear ega egz
      apply wp_cutN (fun w1 => Hid (Ok w0 w1 ∧ w1.heap[ga]? = some (.cells #[.bool x.2.2.2.2, .int .i64 x.1, .int .i64 x.2.1, .int .u64 (x.2.2.1 : Int), .int .u64 (x.2.2.2.1 : Int)] 29 (0, 0)) ∧ (∀ (h : Nat) (o : Obj), h ≠ ga → W.heap[h]? = some o → w1.heap[h]? = some o)))
      case h1 =>
        obtain ⟨a0, a1, a2, a3, a4, a5, a6, a7, a8, a9⟩ := row5_facts ra.out
        have bz : Ok W W := Ok.refl _
        go_region_with (first
          | (go_at_call 18; refine (rfrom_any (v + 1) HV1.out W _ (by first | assumption | exact Below.drew (by assumption))).mono ?_; rintro e w1 ⟨rfl, hb⟩; rw [HC.out]; unfold nv; obtain ⟨a0, a1, a2, a3, a4, a5, a6, a7, a8, a9⟩ := row5_facts (Ok.row' hb ra.out))
          | (go_at_call 16; refine (rnmeet_any a c RX.out RC.out W _ (by first | assumption | exact Below.drew (by assumption))).mono ?_; rintro e w2 ⟨rfl, hb⟩; rw [HY.out]; unfold nv; obtain ⟨a0, a1, a2, a3, a4, a5, a6, a7, a8, a9⟩ := row5_facts (Ok.row' hb ra.out))
          | fail)
        all_goals exact ⟨rfl, put1_end HW.out hb ra.out lga _ _ _ _ _⟩
      case h2 =>
        rintro Z1 H
        obtain ⟨HZz, raz, keep⟩ := H.out
        have HZ1 : Hid (Ok w0 Z1) := HZz
        replace rz : Hid _ := keep _ _ (by omega) rz.out
        have rb : Hid _ := raz
        clear H HZz raz keep ra
        have ra : Hid _ := rb
        clear rb
        clear HC RC HY HV1 b1 b2 hw RX
        have RX : Hid (RawN x) := RX0
        have NX : Hid (NormN x) := NX0
        clear RX0 NX0
        rcases Bool.eq_false_or_eq_true x.2.2.2.2 with hB | hB
        · have HA : Hid (r = x) := by unfold Hid; rw [HR.out]; exact les_bot NX.out hB
          obtain ⟨a0, a1, a2, a3, a4, a5, a6, a7, a8, a9⟩ := row5_facts ra.out
          obtain ⟨k0, k1, k2, k3, k4, k5, k6, k7, k8, k9⟩ := row5_facts rz.out
          rw [hB] at a0
          go_wp2_with fail
          have hr : Hid _ := rz
          have HB : Hid _ := hB
          (try simp only [Exit.inBlock, Exit.then]); refine bodyPost_ret (results_cell_row rfl _ _ (gz) 29 #[_, _, _, _, _] (0, 0) _ rfl (row_set5 hr.out _ _ _ _ _) Tryz.underlying29 rfl infoN) rfl ?_
          exact ⟨by rw [HA.out, HB.out], Ok.set (Ok.set (Ok.set (Ok.set (Ok.set (HZ1.out) (show w0.heap.size ≤ gz by omega) _) (show w0.heap.size ≤ gz by omega) _) (show w0.heap.size ≤ gz by omega) _) (show w0.heap.size ≤ gz by omega) _) (show w0.heap.size ≤ gz by omega) _⟩
        · by_cases h2 : x.2.1 = v
          · have d2 : (x.2.1 == v) = true := by simpa using h2
            by_cases h3 : v = -9223372036854775808
            · have HA : Hid (r = botN) := by unfold Hid; rw [HR.out, if_pos h2, h3]; exact bel_min RX.out
              have d3 : (v == -9223372036854775808) = true := by simpa using h3
              clear h3 h2
              obtain ⟨a0, a1, a2, a3, a4, a5, a6, a7, a8, a9⟩ := row5_facts ra.out
              obtain ⟨k0, k1, k2, k3, k4, k5, k6, k7, k8, k9⟩ := row5_facts rz.out
              rw [hB] at a0
              clear hB
              go_wp2_with fail
              clear a0 a1 a2 a3 a4 a5 a6 a7 a8 a9 k0 k1 k2 k3 k4 k5 k6 k7 k8 k9
              refine (rbot_any Z1 _ (Ok.refl _)).mono ?_
              rintro e u1 ⟨rfl, hb⟩
              have hr : Hid _ := Ok.row' hb rz.out
              have Hu : Hid (Ok w0 u1) := HZ1.out.step hb
              clear hb
              obtain ⟨k0, k1, k2, k3, k4, k5, k6, k7, k8, k9⟩ := row5_facts hr.out
              unfold nv botN
              go_wp2_with fail
              (try simp only [Exit.inBlock, Exit.then]); refine bodyPost_ret (results_cell_row rfl _ _ (gz) 29 #[_, _, _, _, _] (0, 0) _ rfl (row_set5 hr.out _ _ _ _ _) Tryz.underlying29 rfl infoN) rfl ?_
              exact ⟨(by rw [HA.out]; rfl), Ok.set (Ok.set (Ok.set (Ok.set (Ok.set (Hu.out) (show w0.heap.size ≤ gz by omega) _) (show w0.heap.size ≤ gz by omega) _) (show w0.heap.size ≤ gz by omega) _) (show w0.heap.size ≤ gz by omega) _) (show w0.heap.size ≤ gz by omega) _⟩
            · have d3 : (v == -9223372036854775808) = false := by simpa using h3
              obtain ⟨c, hc⟩ : ∃ t, clipN (-9223372036854775808) (v - 1) = t := ⟨_, rfl⟩
              have HC : Hid (clipN (-9223372036854775808) (v - 1) = c) := hc
              have RC : Hid (RawN c) := by unfold Hid; rw [← hc]; exact clip_raw _ _
              obtain ⟨y, hy⟩ : ∃ t, meetN x c = t := ⟨_, rfl⟩
              have HY : Hid (meetN x c = y) := hy
              have HA : Hid (r = y) := by unfold Hid; rw [HR.out, if_pos h2, ← hy, ← hc]; unfold belN; rw [Int.sub_eq_add_neg]
              have HV1 : Hid (In64 (v - 1)) := by have z := IV.out; unfold In64 at z; unfold Hid In64; omega
              have b1 : -9223372036854775808 ≤ v - 1 := HV1.out.1
              have b2 : v - 1 ≤ 9223372036854775807 := HV1.out.2
              have hw : IntKind.i64.wrap (v - 1) = v - 1 := by rw [IntKind.wrap_i64]; omega
              clear hc hy h2 h3
              obtain ⟨a0, a1, a2, a3, a4, a5, a6, a7, a8, a9⟩ := row5_facts ra.out
              obtain ⟨k0, k1, k2, k3, k4, k5, k6, k7, k8, k9⟩ := row5_facts rz.out
              rw [hB] at a0
              clear hB
              go_wp2_with fail
              clear a0 a1 a2 a3 a4 a5 a6 a7 a8 a9 k0 k1 k2 k3 k4 k5 k6 k7 k8 k9
              apply wp_cutN (fun w1 => Hid (Ok w0 w1 ∧ w1.heap[ga]? = some (.cells #[.bool y.2.2.2.2, .int .i64 y.1, .int .i64 y.2.1, .int .u64 (y.2.2.1 : Int), .int .u64 (y.2.2.2.1 : Int)] 29 (0, 0)) ∧ (∀ (h : Nat) (o : Obj), h ≠ ga → Z1.heap[h]? = some o → w1.heap[h]? = some o)))
              case h1 =>
                obtain ⟨a0, a1, a2, a3, a4, a5, a6, a7, a8, a9⟩ := row5_facts ra.out
                have bz : Ok Z1 Z1 := Ok.refl _
                go_region_with (first
                  | (go_at_call 17; refine (rto_any (v - 1) HV1.out Z1 _ (by first | assumption | exact Below.drew (by assumption))).mono ?_; rintro e w1 ⟨rfl, hb⟩; rw [HC.out]; unfold nv; obtain ⟨a0, a1, a2, a3, a4, a5, a6, a7, a8, a9⟩ := row5_facts (Ok.row' hb ra.out))
                  | (go_at_call 16; refine (rnmeet_any x c RX.out RC.out Z1 _ (by first | assumption | exact Below.drew (by assumption))).mono ?_; rintro e w2 ⟨rfl, hb⟩; rw [HY.out]; unfold nv; obtain ⟨a0, a1, a2, a3, a4, a5, a6, a7, a8, a9⟩ := row5_facts (Ok.row' hb ra.out))
                  | fail)
                all_goals exact ⟨rfl, put1_end HZ1.out hb ra.out lga _ _ _ _ _⟩
              case h2 =>
                rintro Z2 H
                obtain ⟨HZz, raz, keep⟩ := H.out
                have HZ2 : Hid (Ok w0 Z2) := HZz
                replace rz : Hid _ := keep _ _ (by omega) rz.out
                have rb : Hid _ := raz
                clear H HZz raz keep ra
                have ra : Hid _ := rb
                clear rb
                obtain ⟨a0, a1, a2, a3, a4, a5, a6, a7, a8, a9⟩ := row5_facts ra.out
                obtain ⟨k0, k1, k2, k3, k4, k5, k6, k7, k8, k9⟩ := row5_facts rz.out
                go_wp2_with fail
                have hr : Hid _ := rz
                (try simp only [Exit.inBlock, Exit.then]); refine bodyPost_ret (results_cell_row rfl _ _ (gz) 29 #[_, _, _, _, _] (0, 0) _ rfl (row_set5 hr.out _ _ _ _ _) Tryz.underlying29 rfl infoN) rfl ?_
                exact ⟨(by rw [HA.out]), Ok.set (Ok.set (Ok.set (Ok.set (Ok.set (HZ2.out) (show w0.heap.size ≤ gz by omega) _) (show w0.heap.size ≤ gz by omega) _) (show w0.heap.size ≤ gz by omega) _) (show w0.heap.size ≤ gz by omega) _) (show w0.heap.size ≤ gz by omega) _⟩
          · have HA : Hid (r = x) := by unfold Hid; rw [HR.out, if_neg h2]
            have d2 : (x.2.1 == v) = false := by simpa using h2
            have HB : Hid _ := hB
            clear h2
            obtain ⟨a0, a1, a2, a3, a4, a5, a6, a7, a8, a9⟩ := row5_facts ra.out
            obtain ⟨k0, k1, k2, k3, k4, k5, k6, k7, k8, k9⟩ := row5_facts rz.out
            rw [hB] at a0
            clear hB
            go_wp2_with fail
            have hr : Hid _ := rz
            (try simp only [Exit.inBlock, Exit.then]); refine bodyPost_ret (results_cell_row rfl _ _ (gz) 29 #[_, _, _, _, _] (0, 0) _ rfl (row_set5 hr.out _ _ _ _ _) Tryz.underlying29 rfl infoN) rfl ?_
            exact ⟨by rw [HA.out, HB.out], Ok.set (Ok.set (Ok.set (Ok.set (Ok.set (HZ1.out) (show w0.heap.size ≤ gz by omega) _) (show w0.heap.size ≤ gz by omega) _) (show w0.heap.size ≤ gz by omega) _) (show w0.heap.size ≤ gz by omega) _) (show w0.heap.size ≤ gz by omega) _⟩
  · have d1 : (a.1 == v) = false := by simpa using h1
    have HR : Hid (r = if a.2.1 = v then belN a v else a) := by unfold Hid; rw [HR0.out]; exact les_next (by rw [if_neg h1])
    have RX : Hid (RawN a) := RA
    have NX : Hid (NormN a) := NA
    clear h1 HR0
    go_enter Tryz.func20, Tryz.ntmps20
    go_upto_region 5 with (fail)
    obtain ⟨W, hW⟩ : ∃ W, W = ((w).alloc (.cells #[.bool a.2.2.2.2, .int .i64 a.1, .int .i64 a.2.1, .int .u64 (a.2.2.1 : Int), .int .u64 (a.2.2.2.1 : Int)] 29)).alloc (.cells #[.bool false, .int .i64 0, .int .i64 0, .int .u64 0, .int .u64 0] 29) := ⟨_, rfl⟩
    have ra : Hid (W.heap[w.heap.size]? = some (.cells #[.bool a.2.2.2.2, .int .i64 a.1, .int .i64 a.2.1, .int .u64 (a.2.2.1 : Int), .int .u64 (a.2.2.2.1 : Int)] 29)) := by unfold Hid; rw [hW]; exact (by repeat (first | (refine heap_at _ _ _ ?hx; case hx => (first | (simp; done) | (simp; omega))) | (refine heap_past _ _ _ ?hy ?_; case hy => (first | (simp; done) | (simp; omega))) | fail))
    have rz : Hid (W.heap[w.heap.size + 1]? = some (.cells #[.bool false, .int .i64 0, .int .i64 0, .int .u64 0, .int .u64 0] 29)) := by unfold Hid; rw [hW]; exact (by repeat (first | (refine heap_at _ _ _ ?hx; case hx => (first | (simp; done) | (simp; omega))) | (refine heap_past _ _ _ ?hy ?_; case hy => (first | (simp; done) | (simp; omega))) | fail))
    have HW : Hid (Ok w0 W) := by unfold Hid; rw [hW]; exact (by repeat (first | exact hok | refine Ok.alloc ?_ _ | refine Ok.draws ?_ _ | fail))
    rw [← hW]
    clear hW
    obtain ⟨gz, egz⟩ : ∃ g, g = w.heap.size + 1 := ⟨_, rfl⟩
    rw [← egz] at rz ⊢
    obtain ⟨ga, ega⟩ : ∃ g, g = w.heap.size := ⟨_, rfl⟩
    rw [← ega] at ra ⊢
    have lga : w0.heap.size ≤ ga := by omega
    have ngagz : ¬ ga = gz := by omega
    have lgz : w0.heap.size ≤ gz := by omega
    have ngzga : ¬ gz = ga := by omega
    clear ega egz
    rcases Bool.eq_false_or_eq_true a.2.2.2.2 with hB | hB
    · have HA : Hid (r = a) := by unfold Hid; rw [HR.out]; exact les_bot NX.out hB
      obtain ⟨a0, a1, a2, a3, a4, a5, a6, a7, a8, a9⟩ := row5_facts ra.out
      obtain ⟨k0, k1, k2, k3, k4, k5, k6, k7, k8, k9⟩ := row5_facts rz.out
      rw [hB] at a0
      go_wp2_with fail
      have hr : Hid _ := rz
      have HB : Hid _ := hB
      (try simp only [Exit.inBlock, Exit.then]); refine bodyPost_ret (results_cell_row rfl _ _ (gz) 29 #[_, _, _, _, _] (0, 0) _ rfl (row_set5 hr.out _ _ _ _ _) Tryz.underlying29 rfl infoN) rfl ?_
      exact ⟨by rw [HA.out, HB.out], Ok.set (Ok.set (Ok.set (Ok.set (Ok.set (HW.out) (show w0.heap.size ≤ gz by omega) _) (show w0.heap.size ≤ gz by omega) _) (show w0.heap.size ≤ gz by omega) _) (show w0.heap.size ≤ gz by omega) _) (show w0.heap.size ≤ gz by omega) _⟩
    · by_cases h2 : a.2.1 = v
      · have d2 : (a.2.1 == v) = true := by simpa using h2
        by_cases h3 : v = -9223372036854775808
        · have HA : Hid (r = botN) := by unfold Hid; rw [HR.out, if_pos h2, h3]; exact bel_min RX.out
          have d3 : (v == -9223372036854775808) = true := by simpa using h3
          clear h3 h2
          obtain ⟨a0, a1, a2, a3, a4, a5, a6, a7, a8, a9⟩ := row5_facts ra.out
          obtain ⟨k0, k1, k2, k3, k4, k5, k6, k7, k8, k9⟩ := row5_facts rz.out
          rw [hB] at a0
          clear hB
          go_wp2_with fail
          clear a0 a1 a2 a3 a4 a5 a6 a7 a8 a9 k0 k1 k2 k3 k4 k5 k6 k7 k8 k9
          refine (rbot_any W _ (Ok.refl _)).mono ?_
          rintro e u1 ⟨rfl, hb⟩
          have hr : Hid _ := Ok.row' hb rz.out
          have Hu : Hid (Ok w0 u1) := HW.out.step hb
          clear hb
          obtain ⟨k0, k1, k2, k3, k4, k5, k6, k7, k8, k9⟩ := row5_facts hr.out
          unfold nv botN
          go_wp2_with fail
          (try simp only [Exit.inBlock, Exit.then]); refine bodyPost_ret (results_cell_row rfl _ _ (gz) 29 #[_, _, _, _, _] (0, 0) _ rfl (row_set5 hr.out _ _ _ _ _) Tryz.underlying29 rfl infoN) rfl ?_
          exact ⟨(by rw [HA.out]; rfl), Ok.set (Ok.set (Ok.set (Ok.set (Ok.set (Hu.out) (show w0.heap.size ≤ gz by omega) _) (show w0.heap.size ≤ gz by omega) _) (show w0.heap.size ≤ gz by omega) _) (show w0.heap.size ≤ gz by omega) _) (show w0.heap.size ≤ gz by omega) _⟩
        · have d3 : (v == -9223372036854775808) = false := by simpa using h3
          obtain ⟨c, hc⟩ : ∃ t, clipN (-9223372036854775808) (v - 1) = t := ⟨_, rfl⟩
          have HC : Hid (clipN (-9223372036854775808) (v - 1) = c) := hc
          have RC : Hid (RawN c) := by unfold Hid; rw [← hc]; exact clip_raw _ _
          obtain ⟨y, hy⟩ : ∃ t, meetN a c = t := ⟨_, rfl⟩
          have HY : Hid (meetN a c = y) := hy
          have HA : Hid (r = y) := by unfold Hid; rw [HR.out, if_pos h2, ← hy, ← hc]; unfold belN; rw [Int.sub_eq_add_neg]
          have HV1 : Hid (In64 (v - 1)) := by have z := IV.out; unfold In64 at z; unfold Hid In64; omega
          have b1 : -9223372036854775808 ≤ v - 1 := HV1.out.1
          have b2 : v - 1 ≤ 9223372036854775807 := HV1.out.2
          have hw : IntKind.i64.wrap (v - 1) = v - 1 := by rw [IntKind.wrap_i64]; omega
          clear hc hy h2 h3
          obtain ⟨a0, a1, a2, a3, a4, a5, a6, a7, a8, a9⟩ := row5_facts ra.out
          obtain ⟨k0, k1, k2, k3, k4, k5, k6, k7, k8, k9⟩ := row5_facts rz.out
          rw [hB] at a0
          clear hB
          go_wp2_with fail
          clear a0 a1 a2 a3 a4 a5 a6 a7 a8 a9 k0 k1 k2 k3 k4 k5 k6 k7 k8 k9
          apply wp_cutN (fun w1 => Hid (Ok w0 w1 ∧ w1.heap[ga]? = some (.cells #[.bool y.2.2.2.2, .int .i64 y.1, .int .i64 y.2.1, .int .u64 (y.2.2.1 : Int), .int .u64 (y.2.2.2.1 : Int)] 29 (0, 0)) ∧ (∀ (h : Nat) (o : Obj), h ≠ ga → W.heap[h]? = some o → w1.heap[h]? = some o)))
          case h1 =>
            obtain ⟨a0, a1, a2, a3, a4, a5, a6, a7, a8, a9⟩ := row5_facts ra.out
            have bz : Ok W W := Ok.refl _
            go_region_with (first
              | (go_at_call 17; refine (rto_any (v - 1) HV1.out W _ (by first | assumption | exact Below.drew (by assumption))).mono ?_; rintro e w1 ⟨rfl, hb⟩; rw [HC.out]; unfold nv; obtain ⟨a0, a1, a2, a3, a4, a5, a6, a7, a8, a9⟩ := row5_facts (Ok.row' hb ra.out))
              | (go_at_call 16; refine (rnmeet_any a c RX.out RC.out W _ (by first | assumption | exact Below.drew (by assumption))).mono ?_; rintro e w2 ⟨rfl, hb⟩; rw [HY.out]; unfold nv; obtain ⟨a0, a1, a2, a3, a4, a5, a6, a7, a8, a9⟩ := row5_facts (Ok.row' hb ra.out))
              | fail)
            all_goals exact ⟨rfl, put1_end HW.out hb ra.out lga _ _ _ _ _⟩
          case h2 =>
            rintro Z2 H
            obtain ⟨HZz, raz, keep⟩ := H.out
            have HZ2 : Hid (Ok w0 Z2) := HZz
            replace rz : Hid _ := keep _ _ (by omega) rz.out
            have rb : Hid _ := raz
            clear H HZz raz keep ra
            have ra : Hid _ := rb
            clear rb
            obtain ⟨a0, a1, a2, a3, a4, a5, a6, a7, a8, a9⟩ := row5_facts ra.out
            obtain ⟨k0, k1, k2, k3, k4, k5, k6, k7, k8, k9⟩ := row5_facts rz.out
            go_wp2_with fail
            have hr : Hid _ := rz
            (try simp only [Exit.inBlock, Exit.then]); refine bodyPost_ret (results_cell_row rfl _ _ (gz) 29 #[_, _, _, _, _] (0, 0) _ rfl (row_set5 hr.out _ _ _ _ _) Tryz.underlying29 rfl infoN) rfl ?_
            exact ⟨(by rw [HA.out]), Ok.set (Ok.set (Ok.set (Ok.set (Ok.set (HZ2.out) (show w0.heap.size ≤ gz by omega) _) (show w0.heap.size ≤ gz by omega) _) (show w0.heap.size ≤ gz by omega) _) (show w0.heap.size ≤ gz by omega) _) (show w0.heap.size ≤ gz by omega) _⟩
      · have HA : Hid (r = a) := by unfold Hid; rw [HR.out, if_neg h2]
        have d2 : (a.2.1 == v) = false := by simpa using h2
        have HB : Hid _ := hB
        clear h2
        obtain ⟨a0, a1, a2, a3, a4, a5, a6, a7, a8, a9⟩ := row5_facts ra.out
        obtain ⟨k0, k1, k2, k3, k4, k5, k6, k7, k8, k9⟩ := row5_facts rz.out
        rw [hB] at a0
        clear hB
        go_wp2_with fail
        have hr : Hid _ := rz
        (try simp only [Exit.inBlock, Exit.then]); refine bodyPost_ret (results_cell_row rfl _ _ (gz) 29 #[_, _, _, _, _] (0, 0) _ rfl (row_set5 hr.out _ _ _ _ _) Tryz.underlying29 rfl infoN) rfl ?_
        exact ⟨by rw [HA.out, HB.out], Ok.set (Ok.set (Ok.set (Ok.set (Ok.set (HW.out) (show w0.heap.size ≤ gz by omega) _) (show w0.heap.size ≤ gz by omega) _) (show w0.heap.size ≤ gz by omega) _) (show w0.heap.size ≤ gz by omega) _) (show w0.heap.size ≤ gz by omega) _⟩
end Go.Proofs.YtbkblijoimmdeaaGreat
