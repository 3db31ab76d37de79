import Derived.Test.YtgkbegmaffknbaaGreatRows
import Derived.WalkKit
import Derived.WalkSpells
import Derived.WalkSmall
import Derived.Deep.QuietTactic
import Derived.BigQuiet
import Derived.Test.YtgkbegmaffknbaaGreatSCok
import Derived.Test.YtgkbegmaffknbaaGreatSIdiv
set_option linter.unusedVariables false
set_option linter.unusedSimpArgs false
set_option linter.unnecessarySimpa false
/- Iref -/
namespace Go.Proofs.YtgkbegmaffknbaaGreat
open Go.RowKit
theorem infoI : (Tryz.prog.info? 23).map (·.size) = some 2 := by kernel_rfl
set_option maxHeartbeats 400000 in
theorem rhas_any (l h v : Int) (w0 w : World) (hok : Ok w0 w) :
    Calls Tryz.prog 69 #[.agg #[.int .i64 l, .int .i64 h], .int .i64 v] w fun e w' => e = .returned (.bool (hasI l h v)) ∧ Ok w0 w' := by
  go_enter Tryz.func69, Tryz.ntmps69
  go_wp2
  all_goals go_ret
  all_goals refine ⟨retb ?_, hok.alloc _⟩
  · unfold hasI; simp [*]
  · unfold hasI; rename_i h0; rw [decide_eq_false (show ¬ l ≤ v by omega), Bool.false_and]
set_option maxHeartbeats 400000 in
theorem rnone_any (w : World) :
    Calls Tryz.prog 138 #[] w fun e w' => e = .returned (.agg #[.int .i64 1, .int .i64 0]) ∧ w' = w.alloc (.cells #[.int .i64 1, .int .i64 0] 23) := by
  go_enter Tryz.func138, Tryz.ntmps138
  go_wp2
  try simp only [Exit.inBlock, Exit.then]
  refine bodyPost_ret (results_cell_row rfl _ _ w.heap.size 23 _ (0, 0) _ rfl (heap_new0 _ _) Tryz.underlying23 rfl infoI) rfl ?_
  exact ⟨rfl, rfl⟩
set_option maxHeartbeats 400000 in
theorem rnormal_yes (l h : Int) (w : World) (hc : h < l) :
    Calls Tryz.prog 129 #[.agg #[.int .i64 l, .int .i64 h]] w fun e w' => e = .returned (.agg #[.int .i64 (normI l h).1, .int .i64 (normI l h).2]) ∧ w' = (((w.alloc (.cells #[.int .i64 l, .int .i64 h] 23)).alloc (.cells #[.int .i64 1, .int .i64 0] 23)).alloc (.cells #[.int .i64 l, .int .i64 h] 23)).alloc (.cells #[.int .i64 1, .int .i64 0] 23) := by
  have E : Hid (normI l h = (1, 0)) := by unfold Hid normI; rw [if_pos hc]
  go_enter Tryz.func129, Tryz.ntmps129
  go_wp2_with (first | (go_at_call 138; refine (rnone_any _).mono ?_; rintro e w' ⟨rfl, rfl⟩) | go_in)
  try simp only [Exit.inBlock, Exit.then]
  refine bodyPost_ret (results_cell_row rfl _ _ (w.heap.size + 1) 23 #[_, _] (0, 0) _ rfl (by repeat (first | (refine heap_at _ _ _ ?hx; case hx => (simp; done)) | (refine heap_past _ _ _ ?hy ?_; case hy => (simp; done)) | fail)) Tryz.underlying23 rfl infoI) rfl ?_
  exact ⟨reti E.out, rfl⟩
set_option maxHeartbeats 400000 in
theorem rnormal_no (l h : Int) (w : World) (hc : l ≤ h) :
    Calls Tryz.prog 129 #[.agg #[.int .i64 l, .int .i64 h]] w fun e w' => e = .returned (.agg #[.int .i64 (normI l h).1, .int .i64 (normI l h).2]) ∧ w' = ((w.alloc (.cells #[.int .i64 l, .int .i64 h] 23)).alloc (.cells #[.int .i64 l, .int .i64 h] 23)).alloc (.cells #[.int .i64 l, .int .i64 h] 23) := by
  have E : Hid (normI l h = (l, h)) := by unfold Hid normI; rw [if_neg (by omega)]
  go_enter Tryz.func129, Tryz.ntmps129
  go_wp2_with (first | (go_at_call 138; refine (rnone_any _).mono ?_; rintro e w' ⟨rfl, rfl⟩) | go_in)
  try simp only [Exit.inBlock, Exit.then]
  refine bodyPost_ret (results_cell_row rfl _ _ (w.heap.size + 1) 23 #[_, _] (0, 0) _ rfl (by repeat (first | (refine heap_at _ _ _ ?hx; case hx => (simp; done)) | (refine heap_past _ _ _ ?hy ?_; case hy => (simp; done)) | fail)) Tryz.underlying23 rfl infoI) rfl ?_
  exact ⟨reti E.out, rfl⟩
set_option maxHeartbeats 400000 in
theorem rleq_any (al ah bl bh : Int) (w0 w : World) (hok : Ok w0 w) :
    Calls Tryz.prog 71 #[.agg #[.int .i64 al, .int .i64 ah], .agg #[.int .i64 bl, .int .i64 bh]] w fun e w' => e = .returned (.bool (leqI al ah bl bh)) ∧ Ok w0 w' := by
  go_enter Tryz.func71, Tryz.ntmps71
  go_wp2
  all_goals go_ret
  all_goals refine ⟨retb ?_, by repeat (first | exact hok | refine Ok.alloc ?_ _)⟩
  · unfold leqI; rename_i h1 h0; rw [decide_eq_true h0, Bool.true_and]
  · unfold leqI; rename_i h1 h0; rw [decide_eq_false (show ¬ bl ≤ al by omega), Bool.false_and, Bool.or_false]
  · unfold leqI; rename_i h0; rw [decide_eq_true h0, Bool.true_or]
theorem joinI_a {al ah bl bh : Int} (h : ah < al) : joinI al ah bl bh = normI bl bh := by unfold joinI; rw [if_pos h]
theorem joinI_b {al ah bl bh : Int} (h : al ≤ ah) (g : bh < bl) : joinI al ah bl bh = (al, ah) := by unfold joinI; rw [if_neg (by omega), if_pos g]
theorem joinI_c {al ah bl bh : Int} (h : al ≤ ah) (g : bl ≤ bh) : joinI al ah bl bh = (min al bl, max ah bh) := by unfold joinI; rw [if_neg (by omega), if_neg (by omega)]
set_option maxHeartbeats 1000000 in
theorem rjoin_a (al ah bl bh : Int) (w0 w : World) (hok : Ok w0 w) (ha : ah < al) :
    Calls Tryz.prog 73 #[.agg #[.int .i64 al, .int .i64 ah], .agg #[.int .i64 bl, .int .i64 bh]] w fun e w' => e = .returned (.agg #[.int .i64 (joinI al ah bl bh).1, .int .i64 (joinI al ah bl bh).2]) ∧ Ok w0 w' := by
  have E : Hid (joinI al ah bl bh = ((normI bl bh).1, (normI bl bh).2)) := joinI_a ha
  by_cases hb : bh < bl
  · go_enter Tryz.func73, Tryz.ntmps73
    go_wp2_with (first | (go_at_call 129; refine (rnormal_yes _ _ _ hb).mono ?_; rintro e w' ⟨rfl, rfl⟩) | go_in)
    try simp only [Exit.inBlock, Exit.then]
    refine bodyPost_ret (results_cell_row rfl _ _ (w.heap.size + 2) 23 #[_, _] (0, 0) _ rfl (by repeat (first | (refine heap_at _ _ _ ?hx; case hx => (simp; done)) | (refine heap_past _ _ _ ?hy ?_; case hy => (simp; done)) | fail)) Tryz.underlying23 rfl infoI) rfl ?_
    exact ⟨reti E.out, by repeat (first | exact hok | refine Ok.alloc ?_ _)⟩
  · replace hb : bl ≤ bh := by omega
    go_enter Tryz.func73, Tryz.ntmps73
    go_wp2_with (first | (go_at_call 129; refine (rnormal_no _ _ _ hb).mono ?_; rintro e w' ⟨rfl, rfl⟩) | go_in)
    try simp only [Exit.inBlock, Exit.then]
    refine bodyPost_ret (results_cell_row rfl _ _ (w.heap.size + 2) 23 #[_, _] (0, 0) _ rfl (by repeat (first | (refine heap_at _ _ _ ?hx; case hx => (simp; done)) | (refine heap_past _ _ _ ?hy ?_; case hy => (simp; done)) | fail)) Tryz.underlying23 rfl infoI) rfl ?_
    exact ⟨reti E.out, by repeat (first | exact hok | refine Ok.alloc ?_ _)⟩
set_option maxHeartbeats 1000000 in
theorem rjoin_any (al ah bl bh : Int) (w0 w : World) (hok : Ok w0 w) :
    Calls Tryz.prog 73 #[.agg #[.int .i64 al, .int .i64 ah], .agg #[.int .i64 bl, .int .i64 bh]] w fun e w' => e = .returned (.agg #[.int .i64 (joinI al ah bl bh).1, .int .i64 (joinI al ah bl bh).2]) ∧ Ok w0 w' := by
  by_cases ha : ah < al
  · exact rjoin_a al ah bl bh w0 w hok ha
  · replace ha : al ≤ ah := by omega
    by_cases hb : bh < bl
    · have E : Hid (joinI al ah bl bh = (al, ah)) := joinI_b ha hb
      go_enter Tryz.func73, Tryz.ntmps73
      go_wp2
      try simp only [Exit.inBlock, Exit.then]
      refine bodyPost_ret (results_cell_row rfl _ _ (w.heap.size + 2) 23 #[_, _] (0, 0) _ rfl (by repeat (first | (refine heap_at _ _ _ ?hx; case hx => (simp; done)) | (refine heap_past _ _ _ ?hy ?_; case hy => (simp; done)) | fail)) Tryz.underlying23 rfl infoI) rfl ?_
      exact ⟨reti E.out, by repeat (first | exact hok | refine Ok.alloc ?_ _)⟩
    · replace hb : bl ≤ bh := by omega
      have E : Hid (joinI al ah bl bh = (min al bl, max ah bh)) := joinI_c ha hb
      go_enter Tryz.func73, Tryz.ntmps73
      go_wp2
      all_goals try simp only [Exit.inBlock, Exit.then]
      all_goals refine bodyPost_ret (results_cell_row rfl _ _ (w.heap.size + 2) 23 #[_, _] (0, 0) _ rfl (by repeat (first | (refine heap_at _ _ _ ?hx; case hx => (simp; done)) | (refine heap_past _ _ _ ?hy ?_; case hy => (simp; done)) | fail)) Tryz.underlying23 rfl infoI) rfl ?_
      all_goals exact ⟨reti (by rw [E.out]; congr 1 <;> omega), by repeat (first | exact hok | refine Ok.alloc ?_ _)⟩
end Go.Proofs.YtgkbegmaffknbaaGreat
