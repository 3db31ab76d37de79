import Derived.Deep.RegionHeld3
import Derived.Test.YtbkblijoimmdeaaGreatKNv
set_option linter.unusedVariables false
set_option linter.unusedSimpArgs false
set_option linter.unnecessarySimpa false
/- Ja -/
namespace Go.Proofs.YtbkblijoimmdeaaGreat
open Go.RowKit
set_option maxHeartbeats 400000 in
theorem pnone_ex (w : World) :
    Calls Tryz.prog 130 #[] w fun e w' => e = .returned (.agg #[.int .i64 1, .int .i64 0]) ∧ w' = w.alloc (.cells #[.int .i64 1, .int .i64 0] 24) := by
  go_enter Tryz.func130, Tryz.ntmps130
  go_wp2
  try simp only [Exit.inBlock, Exit.then]
  refine bodyPost_ret (results_cell_row rfl _ _ w.heap.size 24 _ (0, 0) _ rfl (heap_new0 _ _) Tryz.underlying24 rfl infoI) rfl ?_
  exact ⟨rfl, rfl⟩
set_option maxHeartbeats 400000 in
theorem Jpall_ex (w : World) :
    Calls Tryz.prog 177 #[] w fun e w' => e = .returned (.agg #[.int .i64 (-9223372036854775808), .int .i64 9223372036854775807]) ∧ w' = w.alloc (.cells #[.int .i64 (-9223372036854775808), .int .i64 9223372036854775807] 24) := by
  go_enter Tryz.func177, Tryz.ntmps177
  go_wp2
  try simp only [Exit.inBlock, Exit.then]
  refine bodyPost_ret (results_cell_row rfl _ _ w.heap.size 24 _ (0, 0) _ rfl (heap_new0 _ _) Tryz.underlying24 rfl infoI) rfl ?_
  exact ⟨rfl, rfl⟩
set_option maxHeartbeats 400000 in
theorem pisnone_ex (l h : Int) (w : World) :
    Calls Tryz.prog 129 #[.agg #[.int .i64 l, .int .i64 h]] w fun e w' => e = .returned (.bool (decide (h < l))) ∧ w' = w.alloc (.cells #[.int .i64 l, .int .i64 h] 24) := by
  go_enter Tryz.func129, Tryz.ntmps129
  go_wp2
  go_ret
  exact ⟨rfl, rfl⟩
set_option maxHeartbeats 400000 in
theorem ptidy_yes (l h : Int) (w : World) (hc : h < l) :
    Calls Tryz.prog 93 #[.agg #[.int .i64 l, .int .i64 h]] w fun e w' => e = .returned (.agg #[.int .i64 (normI l h).1, .int .i64 (normI l h).2]) ∧ w' = (((w.alloc (.cells #[.int .i64 l, .int .i64 h] 24)).alloc (.cells #[.int .i64 1, .int .i64 0] 24)).alloc (.cells #[.int .i64 l, .int .i64 h] 24)).alloc (.cells #[.int .i64 1, .int .i64 0] 24) := by
  have E : Hid (normI l h = (1, 0)) := by unfold Hid normI; rw [if_pos hc]
  have d : decide (h < l) = true := decide_eq_true hc
  go_enter Tryz.func93, Tryz.ntmps93
  go_wp2_with (first | (go_at_call 129; refine (pisnone_ex _ _ _).mono ?_; rintro e w' ⟨rfl, rfl⟩) | (go_at_call 130; refine (pnone_ex _).mono ?_; rintro e w' ⟨rfl, rfl⟩) | fail)
  (try simp only [Exit.inBlock, Exit.then]); refine bodyPost_ret (results_cell_row rfl _ _ (w.heap.size + 1) 24 #[_, _] (0, 0) _ rfl (by repeat (first | (refine heap_at _ _ _ ?hx; case hx => (first | (simp; done) | (simp; omega))) | (refine heap_past _ _ _ ?hy ?_; case hy => (first | (simp; done) | (simp; omega))) | fail)) Tryz.underlying24 rfl infoI) rfl ?_
  exact ⟨reti E.out, rfl⟩
set_option maxHeartbeats 400000 in
theorem ptidy_no (l h : Int) (w : World) (hc : l ≤ h) :
    Calls Tryz.prog 93 #[.agg #[.int .i64 l, .int .i64 h]] w fun e w' => e = .returned (.agg #[.int .i64 (normI l h).1, .int .i64 (normI l h).2]) ∧ w' = ((w.alloc (.cells #[.int .i64 l, .int .i64 h] 24)).alloc (.cells #[.int .i64 l, .int .i64 h] 24)).alloc (.cells #[.int .i64 l, .int .i64 h] 24) := by
  have E : Hid (normI l h = (l, h)) := by unfold Hid normI; rw [if_neg (by omega)]
  have d : decide (h < l) = false := decide_eq_false (by omega)
  go_enter Tryz.func93, Tryz.ntmps93
  go_wp2_with (first | (go_at_call 129; refine (pisnone_ex _ _ _).mono ?_; rintro e w' ⟨rfl, rfl⟩) | (go_at_call 130; refine (pnone_ex _).mono ?_; rintro e w' ⟨rfl, rfl⟩) | fail)
  (try simp only [Exit.inBlock, Exit.then]); refine bodyPost_ret (results_cell_row rfl _ _ (w.heap.size + 1) 24 #[_, _] (0, 0) _ rfl (by repeat (first | (refine heap_at _ _ _ ?hx; case hx => (first | (simp; done) | (simp; omega))) | (refine heap_past _ _ _ ?hy ?_; case hy => (first | (simp; done) | (simp; omega))) | fail)) Tryz.underlying24 rfl infoI) rfl ?_
  exact ⟨reti E.out, rfl⟩
set_option maxHeartbeats 2000000 in
theorem Jpmeet_any (al ah bl bh : Int) (w0 w : World) (hok : Ok w0 w) :
    Calls Tryz.prog 50 #[.agg #[.int .i64 al, .int .i64 ah], .agg #[.int .i64 bl, .int .i64 bh]] w fun e w' => e = .returned (.agg #[.int .i64 (meetI al ah bl bh).1, .int .i64 (meetI al ah bl bh).2]) ∧ Ok w0 w' := by
  by_cases h1 : al < bl
  · by_cases h2 : bh < ah
    · skip
      have E0 : meetI al ah bl bh = normI bl bh := by unfold meetI; rw [show max al bl = bl by omega, show min ah bh = bh by omega]
      by_cases hx : bh < bl
      · have hb : bh < bl := hx
        have E : Hid (meetI al ah bl bh = ((normI bl bh).1, (normI bl bh).2)) := E0
        clear hx E0
        go_enter Tryz.func50, Tryz.ntmps50
        go_wp2_with (first | (go_at_call 93; refine (ptidy_yes _ _ _ hb).mono ?_; rintro e w' ⟨rfl, rfl⟩) | fail)
        (try simp only [Exit.inBlock, Exit.then]); refine bodyPost_ret (results_cell_row rfl _ _ (w.heap.size + 2) 24 #[_, _] (0, 0) _ rfl (by repeat (first | (refine heap_at _ _ _ ?hx; case hx => (first | (simp; done) | (simp; omega))) | (refine heap_past _ _ _ ?hy ?_; case hy => (first | (simp; done) | (simp; omega))) | fail)) Tryz.underlying24 rfl infoI) rfl ?_
        exact ⟨reti E.out, (by repeat (first | exact hok | refine Ok.alloc ?_ _ | refine Ok.draws ?_ _ | fail))⟩
      · have hb : bl ≤ bh := by omega
        have E : Hid (meetI al ah bl bh = ((normI bl bh).1, (normI bl bh).2)) := E0
        clear hx E0
        go_enter Tryz.func50, Tryz.ntmps50
        go_wp2_with (first | (go_at_call 93; refine (ptidy_no _ _ _ hb).mono ?_; rintro e w' ⟨rfl, rfl⟩) | fail)
        (try simp only [Exit.inBlock, Exit.then]); refine bodyPost_ret (results_cell_row rfl _ _ (w.heap.size + 2) 24 #[_, _] (0, 0) _ rfl (by repeat (first | (refine heap_at _ _ _ ?hx; case hx => (first | (simp; done) | (simp; omega))) | (refine heap_past _ _ _ ?hy ?_; case hy => (first | (simp; done) | (simp; omega))) | fail)) Tryz.underlying24 rfl infoI) rfl ?_
        exact ⟨reti E.out, (by repeat (first | exact hok | refine Ok.alloc ?_ _ | refine Ok.draws ?_ _ | fail))⟩
    · replace h2 : ah ≤ bh := by omega
      have E0 : meetI al ah bl bh = normI bl ah := by unfold meetI; rw [show max al bl = bl by omega, show min ah bh = ah by omega]
      by_cases hx : ah < bl
      · have hb : ah < bl := hx
        have E : Hid (meetI al ah bl bh = ((normI bl ah).1, (normI bl ah).2)) := E0
        clear hx E0
        go_enter Tryz.func50, Tryz.ntmps50
        go_wp2_with (first | (go_at_call 93; refine (ptidy_yes _ _ _ hb).mono ?_; rintro e w' ⟨rfl, rfl⟩) | fail)
        (try simp only [Exit.inBlock, Exit.then]); refine bodyPost_ret (results_cell_row rfl _ _ (w.heap.size + 2) 24 #[_, _] (0, 0) _ rfl (by repeat (first | (refine heap_at _ _ _ ?hx; case hx => (first | (simp; done) | (simp; omega))) | (refine heap_past _ _ _ ?hy ?_; case hy => (first | (simp; done) | (simp; omega))) | fail)) Tryz.underlying24 rfl infoI) rfl ?_
        exact ⟨reti E.out, (by repeat (first | exact hok | refine Ok.alloc ?_ _ | refine Ok.draws ?_ _ | fail))⟩
      · have hb : bl ≤ ah := by omega
        have E : Hid (meetI al ah bl bh = ((normI bl ah).1, (normI bl ah).2)) := E0
        clear hx E0
        go_enter Tryz.func50, Tryz.ntmps50
        go_wp2_with (first | (go_at_call 93; refine (ptidy_no _ _ _ hb).mono ?_; rintro e w' ⟨rfl, rfl⟩) | fail)
        (try simp only [Exit.inBlock, Exit.then]); refine bodyPost_ret (results_cell_row rfl _ _ (w.heap.size + 2) 24 #[_, _] (0, 0) _ rfl (by repeat (first | (refine heap_at _ _ _ ?hx; case hx => (first | (simp; done) | (simp; omega))) | (refine heap_past _ _ _ ?hy ?_; case hy => (first | (simp; done) | (simp; omega))) | fail)) Tryz.underlying24 rfl infoI) rfl ?_
        exact ⟨reti E.out, (by repeat (first | exact hok | refine Ok.alloc ?_ _ | refine Ok.draws ?_ _ | fail))⟩
  · replace h1 : bl ≤ al := by omega
    by_cases h2 : bh < ah
    · skip
      have E0 : meetI al ah bl bh = normI al bh := by unfold meetI; rw [show max al bl = al by omega, show min ah bh = bh by omega]
      by_cases hx : bh < al
      · have hb : bh < al := hx
        have E : Hid (meetI al ah bl bh = ((normI al bh).1, (normI al bh).2)) := E0
        clear hx E0
        go_enter Tryz.func50, Tryz.ntmps50
        go_wp2_with (first | (go_at_call 93; refine (ptidy_yes _ _ _ hb).mono ?_; rintro e w' ⟨rfl, rfl⟩) | fail)
        (try simp only [Exit.inBlock, Exit.then]); refine bodyPost_ret (results_cell_row rfl _ _ (w.heap.size + 2) 24 #[_, _] (0, 0) _ rfl (by repeat (first | (refine heap_at _ _ _ ?hx; case hx => (first | (simp; done) | (simp; omega))) | (refine heap_past _ _ _ ?hy ?_; case hy => (first | (simp; done) | (simp; omega))) | fail)) Tryz.underlying24 rfl infoI) rfl ?_
        exact ⟨reti E.out, (by repeat (first | exact hok | refine Ok.alloc ?_ _ | refine Ok.draws ?_ _ | fail))⟩
      · have hb : al ≤ bh := by omega
        have E : Hid (meetI al ah bl bh = ((normI al bh).1, (normI al bh).2)) := E0
        clear hx E0
        go_enter Tryz.func50, Tryz.ntmps50
        go_wp2_with (first | (go_at_call 93; refine (ptidy_no _ _ _ hb).mono ?_; rintro e w' ⟨rfl, rfl⟩) | fail)
        (try simp only [Exit.inBlock, Exit.then]); refine bodyPost_ret (results_cell_row rfl _ _ (w.heap.size + 2) 24 #[_, _] (0, 0) _ rfl (by repeat (first | (refine heap_at _ _ _ ?hx; case hx => (first | (simp; done) | (simp; omega))) | (refine heap_past _ _ _ ?hy ?_; case hy => (first | (simp; done) | (simp; omega))) | fail)) Tryz.underlying24 rfl infoI) rfl ?_
        exact ⟨reti E.out, (by repeat (first | exact hok | refine Ok.alloc ?_ _ | refine Ok.draws ?_ _ | fail))⟩
    · replace h2 : ah ≤ bh := by omega
      have E0 : meetI al ah bl bh = normI al ah := by unfold meetI; rw [show max al bl = al by omega, show min ah bh = ah by omega]
      by_cases hx : ah < al
      · have hb : ah < al := hx
        have E : Hid (meetI al ah bl bh = ((normI al ah).1, (normI al ah).2)) := E0
        clear hx E0
        go_enter Tryz.func50, Tryz.ntmps50
        go_wp2_with (first | (go_at_call 93; refine (ptidy_yes _ _ _ hb).mono ?_; rintro e w' ⟨rfl, rfl⟩) | fail)
        (try simp only [Exit.inBlock, Exit.then]); refine bodyPost_ret (results_cell_row rfl _ _ (w.heap.size + 2) 24 #[_, _] (0, 0) _ rfl (by repeat (first | (refine heap_at _ _ _ ?hx; case hx => (first | (simp; done) | (simp; omega))) | (refine heap_past _ _ _ ?hy ?_; case hy => (first | (simp; done) | (simp; omega))) | fail)) Tryz.underlying24 rfl infoI) rfl ?_
        exact ⟨reti E.out, (by repeat (first | exact hok | refine Ok.alloc ?_ _ | refine Ok.draws ?_ _ | fail))⟩
      · have hb : al ≤ ah := by omega
        have E : Hid (meetI al ah bl bh = ((normI al ah).1, (normI al ah).2)) := E0
        clear hx E0
        go_enter Tryz.func50, Tryz.ntmps50
        go_wp2_with (first | (go_at_call 93; refine (ptidy_no _ _ _ hb).mono ?_; rintro e w' ⟨rfl, rfl⟩) | fail)
        (try simp only [Exit.inBlock, Exit.then]); refine bodyPost_ret (results_cell_row rfl _ _ (w.heap.size + 2) 24 #[_, _] (0, 0) _ rfl (by repeat (first | (refine heap_at _ _ _ ?hx; case hx => (first | (simp; done) | (simp; omega))) | (refine heap_past _ _ _ ?hy ?_; case hy => (first | (simp; done) | (simp; omega))) | fail)) Tryz.underlying24 rfl infoI) rfl ?_
        exact ⟨reti E.out, (by repeat (first | exact hok | refine Ok.alloc ?_ _ | refine Ok.draws ?_ _ | fail))⟩
end Go.Proofs.YtbkblijoimmdeaaGreat
