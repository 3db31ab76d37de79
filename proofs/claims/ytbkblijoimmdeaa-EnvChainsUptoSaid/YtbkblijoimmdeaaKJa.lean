import Derived.Deep.RegionHeld3
import Derived.Test.YtbkblijoimmdeaaKIref
set_option linter.unusedVariables false
set_option linter.unusedSimpArgs false
set_option linter.unnecessarySimpa false
/- Ja -/
namespace Go.Proofs.Ytbkblijoimmdeaa
open Go.RowKit
set_option maxHeartbeats 400000 in
theorem pnone_ex (w : World) :
    Calls Try.prog 87 #[] w fun e w' => e = .returned (.agg #[.int .i64 1, .int .i64 0]) ∧ w' = w.alloc (.cells #[.int .i64 1, .int .i64 0] 41) := by
  go_enter Try.func87, Try.ntmps87
  go_wp2
  try simp only [Exit.inBlock, Exit.then]
  refine bodyPost_ret (results_cell_row rfl _ _ w.heap.size 41 _ (0, 0) _ rfl (heap_new0 _ _) Try.underlying41 rfl infoI) rfl ?_
  exact ⟨rfl, rfl⟩
set_option maxHeartbeats 400000 in
theorem pisnone_ex (l h : Int) (w : World) :
    Calls Try.prog 61 #[.agg #[.int .i64 l, .int .i64 h]] w fun e w' => e = .returned (.bool (decide (h < l))) ∧ w' = w.alloc (.cells #[.int .i64 l, .int .i64 h] 41) := by
  go_enter Try.func61, Try.ntmps61
  go_wp2
  go_ret
  exact ⟨rfl, rfl⟩
set_option maxHeartbeats 400000 in
theorem ptidy_yes (l h : Int) (w : World) (hc : h < l) :
    Calls Try.prog 67 #[.agg #[.int .i64 l, .int .i64 h]] w fun e w' => e = .returned (.agg #[.int .i64 (normI l h).1, .int .i64 (normI l h).2]) ∧ w' = (((w.alloc (.cells #[.int .i64 l, .int .i64 h] 41)).alloc (.cells #[.int .i64 1, .int .i64 0] 41)).alloc (.cells #[.int .i64 l, .int .i64 h] 41)).alloc (.cells #[.int .i64 1, .int .i64 0] 41) := by
  have E : Hid (normI l h = (1, 0)) := by unfold Hid normI; rw [if_pos hc]
  have d : decide (h < l) = true := decide_eq_true hc
  go_enter Try.func67, Try.ntmps67
  go_wp2_with (first | (go_at_call 61; refine (pisnone_ex _ _ _).mono ?_; rintro e w' ⟨rfl, rfl⟩) | (go_at_call 87; refine (pnone_ex _).mono ?_; rintro e w' ⟨rfl, rfl⟩) | fail)
  (try simp only [Exit.inBlock, Exit.then]); refine bodyPost_ret (results_cell_row rfl _ _ (w.heap.size + 1) 41 #[_, _] (0, 0) _ rfl (by repeat (first | (refine heap_at _ _ _ ?hx; case hx => (first | (simp; done) | (simp; omega))) | (refine heap_past _ _ _ ?hy ?_; case hy => (first | (simp; done) | (simp; omega))) | fail)) Try.underlying41 rfl infoI) rfl ?_
  exact ⟨reti E.out, rfl⟩
set_option maxHeartbeats 400000 in
theorem ptidy_no (l h : Int) (w : World) (hc : l ≤ h) :
    Calls Try.prog 67 #[.agg #[.int .i64 l, .int .i64 h]] w fun e w' => e = .returned (.agg #[.int .i64 (normI l h).1, .int .i64 (normI l h).2]) ∧ w' = ((w.alloc (.cells #[.int .i64 l, .int .i64 h] 41)).alloc (.cells #[.int .i64 l, .int .i64 h] 41)).alloc (.cells #[.int .i64 l, .int .i64 h] 41) := by
  have E : Hid (normI l h = (l, h)) := by unfold Hid normI; rw [if_neg (by omega)]
  have d : decide (h < l) = false := decide_eq_false (by omega)
  go_enter Try.func67, Try.ntmps67
  go_wp2_with (first | (go_at_call 61; refine (pisnone_ex _ _ _).mono ?_; rintro e w' ⟨rfl, rfl⟩) | (go_at_call 87; refine (pnone_ex _).mono ?_; rintro e w' ⟨rfl, rfl⟩) | fail)
  (try simp only [Exit.inBlock, Exit.then]); refine bodyPost_ret (results_cell_row rfl _ _ (w.heap.size + 1) 41 #[_, _] (0, 0) _ rfl (by repeat (first | (refine heap_at _ _ _ ?hx; case hx => (first | (simp; done) | (simp; omega))) | (refine heap_past _ _ _ ?hy ?_; case hy => (first | (simp; done) | (simp; omega))) | fail)) Try.underlying41 rfl infoI) rfl ?_
  exact ⟨reti E.out, rfl⟩
set_option maxHeartbeats 400000 in
theorem phas_ex (al ah v : Int) (w : World) :
    Calls Try.prog 37 #[.agg #[.int .i64 al, .int .i64 ah], .int .i64 v] w fun e w' => e = .returned (.bool (hasI al ah v)) ∧ w' = w.alloc (.cells #[.int .i64 al, .int .i64 ah] 41) := by
  go_enter Try.func37, Try.ntmps37
  go_wp2
  all_goals go_ret
  all_goals refine ⟨retb ?_, rfl⟩
  · unfold hasI; simp [*]
  · unfold hasI; rename_i h0; rw [decide_eq_false (show ¬ al ≤ v by omega), Bool.false_and]
theorem Jphas_any (al ah v : Int) (w0 w : World) (hok : Ok w0 w) :
    Calls Try.prog 37 #[.agg #[.int .i64 al, .int .i64 ah], .int .i64 v] w fun e w' => e = .returned (.bool (hasI al ah v)) ∧ Ok w0 w' := by
  refine (phas_ex al ah v w).mono ?_
  rintro e w' ⟨rfl, rfl⟩
  exact ⟨rfl, hok.alloc _⟩
theorem leqI_none {al ah bl bh : Int} (h : ah < al) : leqI al ah bl bh = true := by unfold leqI; rw [decide_eq_true h, Bool.true_or]
theorem leqI_yes {al ah bl bh : Int} (h : al ≤ ah) (h1 : hasI bl bh al = true) (h2 : hasI bl bh ah = true) : leqI al ah bl bh = true := by
  unfold hasI at h1 h2; simp only [Bool.and_eq_true, decide_eq_true_eq] at h1 h2
  unfold leqI; rw [decide_eq_true h1.1, decide_eq_true h2.2]; simp
theorem leqI_no1 {al ah bl bh : Int} (h : al ≤ ah) (h1 : hasI bl bh al = false) : leqI al ah bl bh = false := by
  unfold hasI at h1; simp only [Bool.and_eq_false_iff, decide_eq_false_iff_not] at h1
  unfold leqI; rw [decide_eq_false (show ¬ ah < al by omega), Bool.false_or, Bool.and_eq_false_iff]; simp only [decide_eq_false_iff_not]; omega
theorem leqI_no2 {al ah bl bh : Int} (h : al ≤ ah) (h1 : hasI bl bh ah = false) : leqI al ah bl bh = false := by
  unfold hasI at h1; simp only [Bool.and_eq_false_iff, decide_eq_false_iff_not] at h1
  unfold leqI; rw [decide_eq_false (show ¬ ah < al by omega), Bool.false_or, Bool.and_eq_false_iff]; simp only [decide_eq_false_iff_not]; omega
set_option maxHeartbeats 1000000 in
theorem Jpleq_any (al ah bl bh : Int) (w0 w : World) (hok : Ok w0 w) :
    Calls Try.prog 44 #[.agg #[.int .i64 al, .int .i64 ah], .agg #[.int .i64 bl, .int .i64 bh]] w fun e w' => e = .returned (.bool (leqI al ah bl bh)) ∧ Ok w0 w' := by
  by_cases ha : ah < al
  · have E : Hid _ := leqI_none (bl := bl) (bh := bh) ha
    have d : decide (ah < al) = true := decide_eq_true ha
    go_enter Try.func44, Try.ntmps44
    go_wp2_with (first | (go_at_call 61; refine (pisnone_ex _ _ _).mono ?_; rintro e w' ⟨rfl, rfl⟩) | (go_at_call 37; refine (phas_ex _ _ _ _).mono ?_; rintro e w' ⟨rfl, rfl⟩) | fail)
    go_ret
    exact ⟨retb E.out.symm, (by repeat (first | exact hok | refine Ok.alloc ?_ _ | refine Ok.draws ?_ _ | fail))⟩
  · have d : decide (ah < al) = false := decide_eq_false ha
    replace ha : al ≤ ah := by omega
    rcases h1 : hasI bl bh al with _ | _
    · have E : Hid _ := leqI_no1 ha h1
      go_enter Try.func44, Try.ntmps44
      go_wp2_with (first | (go_at_call 61; refine (pisnone_ex _ _ _).mono ?_; rintro e w' ⟨rfl, rfl⟩) | (go_at_call 37; refine (phas_ex _ _ _ _).mono ?_; rintro e w' ⟨rfl, rfl⟩) | fail)
      go_ret
      exact ⟨retb E.out.symm, (by repeat (first | exact hok | refine Ok.alloc ?_ _ | refine Ok.draws ?_ _ | fail))⟩
    · rcases h2 : hasI bl bh ah with _ | _
      · have E : Hid _ := leqI_no2 ha h2
        go_enter Try.func44, Try.ntmps44
        go_wp2_with (first | (go_at_call 61; refine (pisnone_ex _ _ _).mono ?_; rintro e w' ⟨rfl, rfl⟩) | (go_at_call 37; refine (phas_ex _ _ _ _).mono ?_; rintro e w' ⟨rfl, rfl⟩) | fail)
        go_ret
        exact ⟨retb E.out.symm, (by repeat (first | exact hok | refine Ok.alloc ?_ _ | refine Ok.draws ?_ _ | fail))⟩
      · have E : Hid _ := leqI_yes ha h1 h2
        go_enter Try.func44, Try.ntmps44
        go_wp2_with (first | (go_at_call 61; refine (pisnone_ex _ _ _).mono ?_; rintro e w' ⟨rfl, rfl⟩) | (go_at_call 37; refine (phas_ex _ _ _ _).mono ?_; rintro e w' ⟨rfl, rfl⟩) | fail)
        go_ret
        exact ⟨retb E.out.symm, (by repeat (first | exact hok | refine Ok.alloc ?_ _ | refine Ok.draws ?_ _ | fail))⟩
set_option maxHeartbeats 1000000 in
theorem Jpjoin_any (al ah bl bh : Int) (w0 w : World) (hok : Ok w0 w) :
    Calls Try.prog 52 #[.agg #[.int .i64 al, .int .i64 ah], .agg #[.int .i64 bl, .int .i64 bh]] w fun e w' => e = .returned (.agg #[.int .i64 (joinI al ah bl bh).1, .int .i64 (joinI al ah bl bh).2]) ∧ Ok w0 w' := by
  by_cases ha : ah < al
  · have E : Hid (joinI al ah bl bh = ((normI bl bh).1, (normI bl bh).2)) := joinI_a ha
    have d : decide (ah < al) = true := decide_eq_true ha
    by_cases hb : bh < bl
    · go_enter Try.func52, Try.ntmps52
      go_wp2_with (first | (go_at_call 61; refine (pisnone_ex _ _ _).mono ?_; rintro e w' ⟨rfl, rfl⟩) | (go_at_call 67; refine (ptidy_yes _ _ _ hb).mono ?_; rintro e w' ⟨rfl, rfl⟩) | fail)
      (try simp only [Exit.inBlock, Exit.then]); refine bodyPost_ret (results_cell_row rfl _ _ (w.heap.size + 2) 41 #[_, _] (0, 0) _ rfl (by repeat (first | (refine heap_at _ _ _ ?hx; case hx => (first | (simp; done) | (simp; omega))) | (refine heap_past _ _ _ ?hy ?_; case hy => (first | (simp; done) | (simp; omega))) | fail)) Try.underlying41 rfl infoI) rfl ?_
      exact ⟨reti E.out, (by repeat (first | exact hok | refine Ok.alloc ?_ _ | refine Ok.draws ?_ _ | fail))⟩
    · replace hb : bl ≤ bh := by omega
      go_enter Try.func52, Try.ntmps52
      go_wp2_with (first | (go_at_call 61; refine (pisnone_ex _ _ _).mono ?_; rintro e w' ⟨rfl, rfl⟩) | (go_at_call 67; refine (ptidy_no _ _ _ hb).mono ?_; rintro e w' ⟨rfl, rfl⟩) | fail)
      (try simp only [Exit.inBlock, Exit.then]); refine bodyPost_ret (results_cell_row rfl _ _ (w.heap.size + 2) 41 #[_, _] (0, 0) _ rfl (by repeat (first | (refine heap_at _ _ _ ?hx; case hx => (first | (simp; done) | (simp; omega))) | (refine heap_past _ _ _ ?hy ?_; case hy => (first | (simp; done) | (simp; omega))) | fail)) Try.underlying41 rfl infoI) rfl ?_
      exact ⟨reti E.out, (by repeat (first | exact hok | refine Ok.alloc ?_ _ | refine Ok.draws ?_ _ | fail))⟩
  · have d : decide (ah < al) = false := decide_eq_false ha
    replace ha : al ≤ ah := by omega
    by_cases hb : bh < bl
    · have E : Hid (joinI al ah bl bh = (al, ah)) := joinI_b ha hb
      have d2 : decide (bh < bl) = true := decide_eq_true hb
      go_enter Try.func52, Try.ntmps52
      go_wp2_with (first | (go_at_call 61; refine (pisnone_ex _ _ _).mono ?_; rintro e w' ⟨rfl, rfl⟩) | fail)
      (try simp only [Exit.inBlock, Exit.then]); refine bodyPost_ret (results_cell_row rfl _ _ (w.heap.size + 2) 41 #[_, _] (0, 0) _ rfl (by repeat (first | (refine heap_at _ _ _ ?hx; case hx => (first | (simp; done) | (simp; omega))) | (refine heap_past _ _ _ ?hy ?_; case hy => (first | (simp; done) | (simp; omega))) | fail)) Try.underlying41 rfl infoI) rfl ?_
      exact ⟨reti E.out, (by repeat (first | exact hok | refine Ok.alloc ?_ _ | refine Ok.draws ?_ _ | fail))⟩
    · have d2 : decide (bh < bl) = false := decide_eq_false hb
      replace hb : bl ≤ bh := by omega
      have E : Hid (joinI al ah bl bh = (min al bl, max ah bh)) := joinI_c ha hb
      go_enter Try.func52, Try.ntmps52
      go_wp2_with (first | (go_at_call 61; refine (pisnone_ex _ _ _).mono ?_; rintro e w' ⟨rfl, rfl⟩) | fail)
      all_goals ((try simp only [Exit.inBlock, Exit.then]); refine bodyPost_ret (results_cell_row rfl _ _ (w.heap.size + 2) 41 #[_, _] (0, 0) _ rfl (by repeat (first | (refine heap_at _ _ _ ?hx; case hx => (first | (simp; done) | (simp; omega))) | (refine heap_past _ _ _ ?hy ?_; case hy => (first | (simp; done) | (simp; omega))) | fail)) Try.underlying41 rfl infoI) rfl ?_)
      all_goals exact ⟨reti (by rw [E.out]; congr 1 <;> omega), (by repeat (first | exact hok | refine Ok.alloc ?_ _ | refine Ok.draws ?_ _ | fail))⟩
set_option maxHeartbeats 2000000 in
theorem Jpmeet_any (al ah bl bh : Int) (w0 w : World) (hok : Ok w0 w) :
    Calls Try.prog 49 #[.agg #[.int .i64 al, .int .i64 ah], .agg #[.int .i64 bl, .int .i64 bh]] w fun e w' => e = .returned (.agg #[.int .i64 (meetI al ah bl bh).1, .int .i64 (meetI al ah bl bh).2]) ∧ Ok w0 w' := by
  by_cases h1 : al < bl
  · by_cases h2 : bh < ah
    · skip
      have E0 : meetI al ah bl bh = normI bl bh := by unfold meetI; rw [show max al bl = bl by omega, show min ah bh = bh by omega]
      by_cases hx : bh < bl
      · have hb : bh < bl := hx
        have E : Hid (meetI al ah bl bh = ((normI bl bh).1, (normI bl bh).2)) := E0
        clear hx E0
        go_enter Try.func49, Try.ntmps49
        go_wp2_with (first | (go_at_call 67; refine (ptidy_yes _ _ _ hb).mono ?_; rintro e w' ⟨rfl, rfl⟩) | fail)
        (try simp only [Exit.inBlock, Exit.then]); refine bodyPost_ret (results_cell_row rfl _ _ (w.heap.size + 2) 41 #[_, _] (0, 0) _ rfl (by repeat (first | (refine heap_at _ _ _ ?hx; case hx => (first | (simp; done) | (simp; omega))) | (refine heap_past _ _ _ ?hy ?_; case hy => (first | (simp; done) | (simp; omega))) | fail)) Try.underlying41 rfl infoI) rfl ?_
        exact ⟨reti E.out, (by repeat (first | exact hok | refine Ok.alloc ?_ _ | refine Ok.draws ?_ _ | fail))⟩
      · have hb : bl ≤ bh := by omega
        have E : Hid (meetI al ah bl bh = ((normI bl bh).1, (normI bl bh).2)) := E0
        clear hx E0
        go_enter Try.func49, Try.ntmps49
        go_wp2_with (first | (go_at_call 67; refine (ptidy_no _ _ _ hb).mono ?_; rintro e w' ⟨rfl, rfl⟩) | fail)
        (try simp only [Exit.inBlock, Exit.then]); refine bodyPost_ret (results_cell_row rfl _ _ (w.heap.size + 2) 41 #[_, _] (0, 0) _ rfl (by repeat (first | (refine heap_at _ _ _ ?hx; case hx => (first | (simp; done) | (simp; omega))) | (refine heap_past _ _ _ ?hy ?_; case hy => (first | (simp; done) | (simp; omega))) | fail)) Try.underlying41 rfl infoI) rfl ?_
        exact ⟨reti E.out, (by repeat (first | exact hok | refine Ok.alloc ?_ _ | refine Ok.draws ?_ _ | fail))⟩
    · replace h2 : ah ≤ bh := by omega
      have E0 : meetI al ah bl bh = normI bl ah := by unfold meetI; rw [show max al bl = bl by omega, show min ah bh = ah by omega]
      by_cases hx : ah < bl
      · have hb : ah < bl := hx
        have E : Hid (meetI al ah bl bh = ((normI bl ah).1, (normI bl ah).2)) := E0
        clear hx E0
        go_enter Try.func49, Try.ntmps49
        go_wp2_with (first | (go_at_call 67; refine (ptidy_yes _ _ _ hb).mono ?_; rintro e w' ⟨rfl, rfl⟩) | fail)
        (try simp only [Exit.inBlock, Exit.then]); refine bodyPost_ret (results_cell_row rfl _ _ (w.heap.size + 2) 41 #[_, _] (0, 0) _ rfl (by repeat (first | (refine heap_at _ _ _ ?hx; case hx => (first | (simp; done) | (simp; omega))) | (refine heap_past _ _ _ ?hy ?_; case hy => (first | (simp; done) | (simp; omega))) | fail)) Try.underlying41 rfl infoI) rfl ?_
        exact ⟨reti E.out, (by repeat (first | exact hok | refine Ok.alloc ?_ _ | refine Ok.draws ?_ _ | fail))⟩
      · have hb : bl ≤ ah := by omega
        have E : Hid (meetI al ah bl bh = ((normI bl ah).1, (normI bl ah).2)) := E0
        clear hx E0
        go_enter Try.func49, Try.ntmps49
        go_wp2_with (first | (go_at_call 67; refine (ptidy_no _ _ _ hb).mono ?_; rintro e w' ⟨rfl, rfl⟩) | fail)
        (try simp only [Exit.inBlock, Exit.then]); refine bodyPost_ret (results_cell_row rfl _ _ (w.heap.size + 2) 41 #[_, _] (0, 0) _ rfl (by repeat (first | (refine heap_at _ _ _ ?hx; case hx => (first | (simp; done) | (simp; omega))) | (refine heap_past _ _ _ ?hy ?_; case hy => (first | (simp; done) | (simp; omega))) | fail)) Try.underlying41 rfl infoI) rfl ?_
        exact ⟨reti E.out, (by repeat (first | exact hok | refine Ok.alloc ?_ _ | refine Ok.draws ?_ _ | fail))⟩
  · replace h1 : bl ≤ al := by omega
    by_cases h2 : bh < ah
    · skip
      have E0 : meetI al ah bl bh = normI al bh := by unfold meetI; rw [show max al bl = al by omega, show min ah bh = bh by omega]
      by_cases hx : bh < al
      · have hb : bh < al := hx
        have E : Hid (meetI al ah bl bh = ((normI al bh).1, (normI al bh).2)) := E0
        clear hx E0
        go_enter Try.func49, Try.ntmps49
        go_wp2_with (first | (go_at_call 67; refine (ptidy_yes _ _ _ hb).mono ?_; rintro e w' ⟨rfl, rfl⟩) | fail)
        (try simp only [Exit.inBlock, Exit.then]); refine bodyPost_ret (results_cell_row rfl _ _ (w.heap.size + 2) 41 #[_, _] (0, 0) _ rfl (by repeat (first | (refine heap_at _ _ _ ?hx; case hx => (first | (simp; done) | (simp; omega))) | (refine heap_past _ _ _ ?hy ?_; case hy => (first | (simp; done) | (simp; omega))) | fail)) Try.underlying41 rfl infoI) rfl ?_
        exact ⟨reti E.out, (by repeat (first | exact hok | refine Ok.alloc ?_ _ | refine Ok.draws ?_ _ | fail))⟩
      · have hb : al ≤ bh := by omega
        have E : Hid (meetI al ah bl bh = ((normI al bh).1, (normI al bh).2)) := E0
        clear hx E0
        go_enter Try.func49, Try.ntmps49
        go_wp2_with (first | (go_at_call 67; refine (ptidy_no _ _ _ hb).mono ?_; rintro e w' ⟨rfl, rfl⟩) | fail)
        (try simp only [Exit.inBlock, Exit.then]); refine bodyPost_ret (results_cell_row rfl _ _ (w.heap.size + 2) 41 #[_, _] (0, 0) _ rfl (by repeat (first | (refine heap_at _ _ _ ?hx; case hx => (first | (simp; done) | (simp; omega))) | (refine heap_past _ _ _ ?hy ?_; case hy => (first | (simp; done) | (simp; omega))) | fail)) Try.underlying41 rfl infoI) rfl ?_
        exact ⟨reti E.out, (by repeat (first | exact hok | refine Ok.alloc ?_ _ | refine Ok.draws ?_ _ | fail))⟩
    · replace h2 : ah ≤ bh := by omega
      have E0 : meetI al ah bl bh = normI al ah := by unfold meetI; rw [show max al bl = al by omega, show min ah bh = ah by omega]
      by_cases hx : ah < al
      · have hb : ah < al := hx
        have E : Hid (meetI al ah bl bh = ((normI al ah).1, (normI al ah).2)) := E0
        clear hx E0
        go_enter Try.func49, Try.ntmps49
        go_wp2_with (first | (go_at_call 67; refine (ptidy_yes _ _ _ hb).mono ?_; rintro e w' ⟨rfl, rfl⟩) | fail)
        (try simp only [Exit.inBlock, Exit.then]); refine bodyPost_ret (results_cell_row rfl _ _ (w.heap.size + 2) 41 #[_, _] (0, 0) _ rfl (by repeat (first | (refine heap_at _ _ _ ?hx; case hx => (first | (simp; done) | (simp; omega))) | (refine heap_past _ _ _ ?hy ?_; case hy => (first | (simp; done) | (simp; omega))) | fail)) Try.underlying41 rfl infoI) rfl ?_
        exact ⟨reti E.out, (by repeat (first | exact hok | refine Ok.alloc ?_ _ | refine Ok.draws ?_ _ | fail))⟩
      · have hb : al ≤ ah := by omega
        have E : Hid (meetI al ah bl bh = ((normI al ah).1, (normI al ah).2)) := E0
        clear hx E0
        go_enter Try.func49, Try.ntmps49
        go_wp2_with (first | (go_at_call 67; refine (ptidy_no _ _ _ hb).mono ?_; rintro e w' ⟨rfl, rfl⟩) | fail)
        (try simp only [Exit.inBlock, Exit.then]); refine bodyPost_ret (results_cell_row rfl _ _ (w.heap.size + 2) 41 #[_, _] (0, 0) _ rfl (by repeat (first | (refine heap_at _ _ _ ?hx; case hx => (first | (simp; done) | (simp; omega))) | (refine heap_past _ _ _ ?hy ?_; case hy => (first | (simp; done) | (simp; omega))) | fail)) Try.underlying41 rfl infoI) rfl ?_
        exact ⟨reti E.out, (by repeat (first | exact hok | refine Ok.alloc ?_ _ | refine Ok.draws ?_ _ | fail))⟩
end Go.Proofs.Ytbkblijoimmdeaa
