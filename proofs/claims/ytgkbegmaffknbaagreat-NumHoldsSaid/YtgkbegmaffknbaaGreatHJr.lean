import Derived.Test.YtgkbegmaffknbaaGreatHIrem0
import Derived.Test.YtgkbegmaffknbaaGreatHJh
set_option linter.unusedVariables false
set_option linter.unusedSimpArgs false
set_option linter.unnecessarySimpa false
/- Jr -/
namespace Go.Proofs.YtgkbegmaffknbaaGreat
open Go.RowKit
set_option maxHeartbeats 400000 in
theorem pdist_ex (v : Int) (hv : In64 v) (w : World) :
    Calls Tryz.prog 234 #[.int .i64 v] w fun e w' => e = .returned (.int .u64 (farI v)) ∧ w' = w := by
  by_cases h : v < 0
  · have E : Hid _ := far_neg h hv
    clear hv
    go_enter Tryz.func234, Tryz.ntmps234
    go_wp2
    go_ret
    exact ⟨ret1u E.out, rfl⟩
  · have E : Hid _ := far_pos (by omega) hv
    clear hv
    go_enter Tryz.func234, Tryz.ntmps234
    go_wp2
    go_ret
    exact ⟨ret1u E.out, rfl⟩
set_option maxHeartbeats 1000000 in
theorem pfarthest_any (l h : Int) (hl : In64 l) (hh : In64 h) (w0 w : World) (hok : Ok w0 w) :
    Calls Tryz.prog 197 #[.agg #[.int .i64 l, .int .i64 h]] w fun e w' => e = .returned (.int .u64 (max (farI l) (farI h))) ∧ Ok w0 w' := by
  have HA : Hid (In64 l ∧ In64 h) := ⟨hl, hh⟩
  clear hl hh
  have b0 := far_bd l HA.out.1
  have b1 := far_bd h HA.out.2
  by_cases hc : farI l < farI h
  · have E : Hid (farI h = max (farI l) (farI h)) := by unfold Hid; omega
    go_enter Tryz.func197, Tryz.ntmps197
    go_wp2_with (first | (go_at_call 94; refine (pisnone_ex _ _ _).mono ?_; rintro e w' ⟨rfl, rfl⟩) | fail)
    go_region_held3 (fun w' => w'.cell? ⟨w.heap.size, 0, none⟩ = some (.int .i64 l) ∧ w'.cell? ⟨w.heap.size, 1, none⟩ = some (.int .i64 h)) (go_keep)
      (first
      | (go_at_call 234; refine (pdist_ex _ (by first | exact HA.out.1 | exact HA.out.2) _).mono ?_; rintro e w' ⟨rfl, rfl⟩)
      | fail)
    go_wp2_with fail
    go_ret
    exact ⟨ret1u E.out, by repeat (first | exact hok | refine Ok.alloc ?_ _ | refine Below.drew ?_)⟩
  · replace hc : farI h ≤ farI l := by omega
    have E : Hid (farI l = max (farI l) (farI h)) := by unfold Hid; omega
    go_enter Tryz.func197, Tryz.ntmps197
    go_wp2_with (first | (go_at_call 94; refine (pisnone_ex _ _ _).mono ?_; rintro e w' ⟨rfl, rfl⟩) | fail)
    go_region_held3 (fun w' => w'.cell? ⟨w.heap.size, 0, none⟩ = some (.int .i64 l) ∧ w'.cell? ⟨w.heap.size, 1, none⟩ = some (.int .i64 h)) (go_keep)
      (first
      | (go_at_call 234; refine (pdist_ex _ (by first | exact HA.out.1 | exact HA.out.2) _).mono ?_; rintro e w' ⟨rfl, rfl⟩)
      | fail)
    go_wp2_with fail
    go_ret
    exact ⟨ret1u E.out, by repeat (first | exact hok | refine Ok.alloc ?_ _ | refine Below.drew ?_)⟩
/-- The least distance from 0; of none it is beyond all. -/
def nearF (l h : Int) : Int := if h < l then 18446744073709551615 else min (farI l) (farI h)
set_option maxHeartbeats 1000000 in
theorem pnearest_any (l h : Int) (hl : In64 l) (hh : In64 h) (w0 w : World) (hok : Ok w0 w) :
    Calls Tryz.prog 198 #[.agg #[.int .i64 l, .int .i64 h]] w fun e w' => e = .returned (.int .u64 (nearF l h)) ∧ Ok w0 w' := by
  have HA : Hid (In64 l ∧ In64 h) := ⟨hl, hh⟩
  clear hl hh
  have b0 := far_bd l HA.out.1
  have b1 := far_bd h HA.out.2
  by_cases hn : h < l
  · have E : Hid (18446744073709551615 = nearF l h) := by unfold Hid nearF; rw [if_pos hn]
    have d : decide (h < l) = true := decide_eq_true hn
    go_enter Tryz.func198, Tryz.ntmps198
    go_wp2_with (first | (go_at_call 94; refine (pisnone_ex _ _ _).mono ?_; rintro e w' ⟨rfl, rfl⟩) | fail)
    go_ret
    exact ⟨ret1u E.out, by repeat (first | exact hok | refine Ok.alloc ?_ _ | refine Below.drew ?_)⟩
  · have d : decide (h < l) = false := decide_eq_false hn
    by_cases hc : farI h < farI l
    · have E : Hid (farI h = nearF l h) := by unfold Hid nearF; rw [if_neg hn]; omega
      go_enter Tryz.func198, Tryz.ntmps198
      go_wp2_with (first | (go_at_call 94; refine (pisnone_ex _ _ _).mono ?_; rintro e w' ⟨rfl, rfl⟩) | fail)
      go_region_held3 (fun w' => w'.cell? ⟨w.heap.size, 0, none⟩ = some (.int .i64 l) ∧ w'.cell? ⟨w.heap.size, 1, none⟩ = some (.int .i64 h)) (go_keep)
        (first
        | (go_at_call 234; refine (pdist_ex _ (by first | exact HA.out.1 | exact HA.out.2) _).mono ?_; rintro e w' ⟨rfl, rfl⟩)
        | fail)
      go_wp2_with fail
      go_ret
      exact ⟨ret1u E.out, by repeat (first | exact hok | refine Ok.alloc ?_ _ | refine Below.drew ?_)⟩
    · replace hc : farI l ≤ farI h := by omega
      have E : Hid (farI l = nearF l h) := by unfold Hid nearF; rw [if_neg hn]; omega
      go_enter Tryz.func198, Tryz.ntmps198
      go_wp2_with (first | (go_at_call 94; refine (pisnone_ex _ _ _).mono ?_; rintro e w' ⟨rfl, rfl⟩) | fail)
      go_region_held3 (fun w' => w'.cell? ⟨w.heap.size, 0, none⟩ = some (.int .i64 l) ∧ w'.cell? ⟨w.heap.size, 1, none⟩ = some (.int .i64 h)) (go_keep)
        (first
        | (go_at_call 234; refine (pdist_ex _ (by first | exact HA.out.1 | exact HA.out.2) _).mono ?_; rintro e w' ⟨rfl, rfl⟩)
        | fail)
      go_wp2_with fail
      go_ret
      exact ⟨ret1u E.out, by repeat (first | exact hok | refine Ok.alloc ?_ _ | refine Below.drew ?_)⟩
set_option maxHeartbeats 400000 in
theorem pupto_ex (v : Int) (w : World) :
    Calls Tryz.prog 191 #[.int .i64 v] w fun e w' => e = .returned (.agg #[.int .i64 (-9223372036854775808), .int .i64 v]) ∧ w' = w.alloc (.cells #[.int .i64 (-9223372036854775808), .int .i64 v] 23) := by
  go_enter Tryz.func191, Tryz.ntmps191
  go_wp2
  (try simp only [Exit.inBlock, Exit.then]); refine bodyPost_ret (results_cell_row rfl _ _ (w.heap.size) 23 #[_, _] (0, 0) _ rfl (by repeat (first | (refine heap_at _ _ _ ?hx; case hx => (first | (simp; done) | (simp; omega))) | (refine heap_past _ _ _ ?hy ?_; case hy => (first | (simp; done) | (simp; omega))) | fail)) Tryz.underlying23 rfl infoI) rfl ?_
  exact ⟨rfl, rfl⟩
set_option maxHeartbeats 400000 in
theorem pfrom_ex (v : Int) (w : World) :
    Calls Tryz.prog 193 #[.int .i64 v] w fun e w' => e = .returned (.agg #[.int .i64 v, .int .i64 9223372036854775807]) ∧ w' = w.alloc (.cells #[.int .i64 v, .int .i64 9223372036854775807] 23) := by
  go_enter Tryz.func193, Tryz.ntmps193
  go_wp2
  (try simp only [Exit.inBlock, Exit.then]); refine bodyPost_ret (results_cell_row rfl _ _ (w.heap.size) 23 #[_, _] (0, 0) _ rfl (by repeat (first | (refine heap_at _ _ _ ?hx; case hx => (first | (simp; done) | (simp; omega))) | (refine heap_past _ _ _ ?hy ?_; case hy => (first | (simp; done) | (simp; omega))) | fail)) Tryz.underlying23 rfl infoI) rfl ?_
  exact ⟨rfl, rfl⟩
set_option maxHeartbeats 1000000 in
theorem pwithin_any (al ah bl bh : Int) (w0 w : World) (hok : Ok w0 w) :
    Calls Tryz.prog 188 #[.agg #[.int .i64 al, .int .i64 ah], .agg #[.int .i64 bl, .int .i64 bh]] w fun e w' => e = .returned (.agg #[.int .i64 (meetI al ah bl bh).1, .int .i64 (meetI al ah bl bh).2]) ∧ Ok w0 w' := by
  have hle := hok.le
  go_enter Tryz.func188, Tryz.ntmps188
  go_wp2_with fail
  refine (Jpmeet_any _ _ _ _ _ _ (Ok.refl _)).mono ?_
  rintro e w' ⟨rfl, hb⟩
  have hr : Hid _ := Ok.row' (g := w.heap.size + 2) (o := .cells #[.int .i64 0, .int .i64 0] 23) hb (by repeat (first | (refine heap_at _ _ _ ?hx; case hx => (first | (simp; done) | (simp; omega))) | (refine heap_past _ _ _ ?hy ?_; case hy => (first | (simp; done) | (simp; omega))) | fail))
  obtain ⟨k0, k1, k2, k3⟩ := row_facts hr.out
  go_wp2_with fail
  (try simp only [Exit.inBlock, Exit.then])
  refine bodyPost_ret (results_cell_row rfl _ _ (w.heap.size + 2) 23 #[_, _] (0, 0) _ rfl (row_set2 hr.out _ _) Tryz.underlying23 rfl infoI) rfl ?_
  exact ⟨rfl, ((Ok.step (by repeat (first | exact hok | refine Ok.alloc ?_ _ | refine Ok.draws ?_ _ | fail)) hb).set (show w0.heap.size ≤ w.heap.size + 2 by omega) _).set (show w0.heap.size ≤ w.heap.size + 2 by omega) _⟩
end Go.Proofs.YtgkbegmaffknbaaGreat
