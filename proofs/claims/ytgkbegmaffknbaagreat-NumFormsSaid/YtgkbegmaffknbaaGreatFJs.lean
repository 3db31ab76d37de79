import Derived.Test.YtgkbegmaffknbaaGreatFJc
import Derived.Test.YtgkbegmaffknbaaGreatFJgs
import Derived.Test.YtgkbegmaffknbaaGreatFJh
import Derived.Test.YtgkbegmaffknbaaGreatFJl
set_option linter.unusedVariables false
set_option linter.unusedSimpArgs false
set_option linter.unnecessarySimpa false
/- Js -/
namespace Go.Proofs.YtgkbegmaffknbaaGreat
open Go.RowKit
theorem pgap_s_any (al ah bl bh : Int) (w0 w : World) (hok : Ok w0 w) (ha1 : In64 al) (ha2 : In64 ah) (hb1 : In64 bl) (hb2 : In64 bh) :
    Calls Tryz.prog 174 #[.func (.func 175) #[] #[], .agg #[.int .i64 al, .int .i64 ah], .agg #[.int .i64 bl, .int .i64 bh]] w fun e w' => e = .returned (.tuple #[.agg #[.int .i64 (addI al ah bl bh).1, .int .i64 (addI al ah bl bh).2.1], .bool (addI al ah bl bh).2.2]) ∧ Ok w0 w' := by
  by_cases h : ah < al ∨ bh < bl
  · rw [show addI al ah bl bh = (1, 0, true) by unfold addI; rw [if_pos h]]
    exact pgap_s_n al ah bl bh w0 w hok h
  · have hc : al ≤ ah := by omega
    have hc2 : bl ≤ bh := by omega
    have E := cL_add hc hc2
    have H := pgap_s_c _ al ah bl bh w0 w hok (op_sum ha1 ha2 hb1 hb2) hc hc2
    rw [E.1, E.2] at H
    have Q : addI al ah bl bh = ((hullW (al + bl) (ah + bh)).1, (hullW (al + bl) (ah + bh)).2, exW (al + bl) (ah + bh)) := by
      unfold addI; rw [if_neg h]; exact span_hullW (by omega)
    rw [Q]
    exact H
set_option maxHeartbeats 1000000 in
theorem Jpadd_any (al ah bl bh : Int) (w0 w : World) (hok : Ok w0 w) (ha1 : In64 al) (ha2 : In64 ah) (hb1 : In64 bl) (hb2 : In64 bh) :
    Calls Tryz.prog 107 #[.agg #[.int .i64 al, .int .i64 ah], .agg #[.int .i64 bl, .int .i64 bh]] w fun e w' => e = .returned (.tuple #[.agg #[.int .i64 (addI al ah bl bh).1, .int .i64 (addI al ah bl bh).2.1], .bool (addI al ah bl bh).2.2]) ∧ Ok w0 w' := by
  have hle := hok.le
  have HA : Hid (In64 al ∧ In64 ah ∧ In64 bl ∧ In64 bh) := ⟨ha1, ha2, hb1, hb2⟩
  clear ha1 ha2 hb1 hb2
  go_enter Tryz.func107, Tryz.ntmps107
  go_wp2_with fail
  refine (pgap_s_any _ _ _ _ _ _ (Ok.refl _) HA.out.1 HA.out.2.1 HA.out.2.2.1 HA.out.2.2.2).mono ?_
  rintro e w' ⟨rfl, hb⟩
  have hr : Hid _ := Ok.row' (g := w.heap.size + 2) (o := .cells #[.int .i64 0, .int .i64 0] 23) hb (by repeat (first | (refine heap_at _ _ _ ?hx; case hx => (first | (simp; done) | (simp; omega))) | (refine heap_past _ _ _ ?hy ?_; case hy => (first | (simp; done) | (simp; omega))) | fail))
  obtain ⟨k0, k1, k2, k3⟩ := row_facts hr.out
  go_wp2_with fail
  (try simp only [Exit.inBlock, Exit.then])
  refine bodyPost_ret (results_iv rfl _ _ (w.heap.size + 2) 23 #[_, _] (0, 0) _ rfl (row_set2 hr.out _ _) Tryz.underlying23 rfl infoI) rfl ?_
  exact ⟨rfl, ((Ok.step (by repeat (first | exact hok | refine Ok.alloc ?_ _ | refine Ok.draws ?_ _ | fail)) hb).set (show w0.heap.size ≤ w.heap.size + 2 by omega) _).set (show w0.heap.size ≤ w.heap.size + 2 by omega) _⟩
end Go.Proofs.YtgkbegmaffknbaaGreat
